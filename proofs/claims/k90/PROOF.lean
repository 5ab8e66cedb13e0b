import PyProof.Rows.All
import KE.KRevSl
import KE.KItem
import KE.KFromBytes
import KE.KIntText
import KE.KIsAll
import KE.KRevIter
import PySem.Challenge.RW_askedpairs_k90_taken_back
open PySem renaming Addr->xM,Value->Oq,Shared->Rg,PyData->Rh,Expr->Rl,World->Ro,wpAny_bind->Rq,wpAny->Rr,Heap->Ru,Program->Rw,Stmt->Rx,model->Ry,Around->Rz,starEach->RB,eval->RC,FuncData->RD,wpAny_pure->RG,sizeLine->RH,backTo->RP,Scope->RU,assignEach->Sa,mainGlobals->Se,cellsFrom->Si,binaryOp->Sx,compareOp->SD,importedModules->SG,sizeLine_eq->SK,Keyword->SL,NameKind->SM,attributeBase->SU,wpAny_field->SV,wpAny_mono->Ta,assign->Td,bootBuiltins->Tn,behindInMarks->To,call_meets->Tr,swapsWith->Tx,backToKw->Tz,keywordEach->TB,wpAny_seqItems->TZ,wpAny_newObj_type->Ue,foldedSetIterable->Uh,DictEntry->Ur,PassesOwn->Uu,wpAny_passesOwn->Uv,wpAny_call_entry->Ux,sliceBounds->Uy,wpAny_loadPart'->UA,wpAny_setField_rec->UF,wpAny_callSpecial?_slot->UJ,wpAny_onRaise->UN,wpAny_truthy_bool->UP,swapsWithSole->UQ,swappedStores->UR,wpAny_Call_Name_kw->US,mem_of_lookup->UU,typeIs_int->UW,intText?->Ve,wpAny_execs_nil->Vj,letOwnedTupleGo->Vk
open PySem.W renaming Frag->Rj,openSeen->SO,fnOf->SZ,findIn->Te,nsIn->Tt,isStarred->TF,mg_of->TY,boot_heap->Uc,emptyDict->Ui,instObj->Uk,keepIn->Ul,kia_one->UD,codeIn->UV,lookIn->Vl,plainGet->Vm,callWith_K->Vp,methodObj->VN,hasDictIn->VS,plainGet_of->VT
open PySem.Str renaming ofString->Rm,join->Ss,empty->TV
open List renaming replicate->RF,getElem?_set_ne->RI,length_map->RQ,size_toArray->RV,mem_singleton->RW,getElem?_map->RY,map_cons->Sb,lookup->Sg,getElem?_set_self->Sj,all_eq_true->Sk,lookup_cons->Sm,mem_cons->Su,map_nil->Sy,mem_append->SH,getElem?_eq_getElem->SN,append_nil->SQ,nil_append->SR,mem_cons_of_mem->SS,Nodup->SY,not_mem_nil->Ti,mem_filter->Tj,length_cons->Tp,getElem?_append_left->TC,map_map->TJ,range->TM,mem_cons_self->TN,mem_append_right->TU,cons_append->Ua,ext_getElem?->Uj,nodup_cons->Um,replicate_succ->Uo,length_set->UB,map->UC,getElem?_set->UE,mem_map->UG,length_append->UI,foldl->UL,mem_range->UO,pairwise_cons->UY,getElem?_of_mem->Va,drop_eq_getElem_cons->Vb,drop_eq_nil_of_le->Vc,lookup_append->Vd,flatten_cons->Vr,getElem_mem->VA,dropLast_eq_take->VD,findIdx?_eq_none_iff->VE,any_cons->VF,filter_map->VG,mem_filterMap->VO,filterMap_cons->VP,getElem?_replicate->VU,length_replicate->VV,length_eq_zero_iff->VZ,getD_eq_getElem?_getD->Wa,pairwise_iff_getElem->Wi,mem_of_mem_tail->Wj,findIdx?_eq_some_iff_getElem->Wq
open Ne renaming symm->RJ
open Option renaming bind_some->RK,map_some->SE,isSome_iff_exists->UT,getD_some->Vx,map_eq_some_iff->VM
open Nat renaming le_refl->RL,le_trans->Sl,lt_of_lt_of_le->So,ne_of_lt->SJ,zero_le->Tq,lt_irrefl->Tw,zero_add->Ub,le_of_lt->Ut,pow_le_pow_right->UX,le_add_right->Vg,lt_succ_self->Vn,lt_of_le_of_lt->VY
open PySem.Heap renaming lt_size->RM,get?_push_of_some->Sf,get?_push_size->SA,size_push->Ts,SameBut->Ud
open Int renaming gcd->RN,emod_nonneg->Vh,emod_lt_of_pos->Vi,fdiv_mul_cancel->Vu,lt_of_lt_of_le->Wk
open PySem.Challenge renaming pw_askedpairs_k90_taken_back->RT,rw_askedpairs_k90_taken_back->VL
open PySem.PyData renaming strOk->RZ,canLay0->Sn,depth->SF,canLayAll0->Tg,eqv->Th,depthAll->TH,shownAll->Vv,showableAll->Vw
open PySem.SeqAt renaming shaped->Sd,canLay_of_shaped->VC
open Bool renaming and_eq_true->Sr,false_ne_true->Ug,false_eq_true->Vy,eq_iff_iff->Vz,and_eq_true_iff->Wm
open Option.some renaming inj->SB,injEq->Us
open PySem.NameKind renaming free->SW,cell->Uz
open PySem.Txt renaming slice->SX,split->TK,isdecimal->Vf
open False renaming elim->Tc
open PyProof.Rows renaming kindOf->Tf,IntsAre->TX,slot_tuple_getitem->Uw,callWith_type1->VR,boot_str->Wf
open PySem.Builtin.SmallTypes renaming nextOf->Tu,ownedTupleIsFree->VI,ownedTupleHandOut->Wr
open PySem.PassesOwn renaming never->Tv
open PySem.Obj renaming mapSeq->Uq
open True renaming intro->UH
open PySem.Builtin.Tuple renaming tupleExact->UK,tupleTooMany->We,tupleItemsOf->Wo
open ForInStep renaming yield->UM
open PySem.F renaming slot_tuple_mul->UZ,slot_list_pop->Vs,slot_int_rmul->Vt,slot_tuple_iterator_next->VB,slot_str_split->VH,slot_zip_next->VJ,plainAttrs_str->Wg
open PySem.Around renaming under->Vo
open PySem.Builtin.Slice renaming slicePlaces->Vq,sliceAdjust->VW,sliceApplied->Wn
open Array renaming length_toList->VQ
open PySem.Builtin.List renaming listTooLong->VX,listExtendWith->Wp
open PySem.Heap.SameBut renaming update->Wb
open PySem.AutoSeq1 renaming idx_int->Wc
open PySem.Builtin.Str renaming occurrences->Wh
set_option Elab.async false
set_option linter.all false
set_option maxRecDepth 100000
namespace L2
open PySem PySem.Spec PyProof.Rows
def dY(s:Rx):Arguments:=match s with|.FunctionDef _ a _ _ _ _ _ _ _ _=>a|_=>{posonlyargs:=[],args:=[],vararg:=none,kwonlyargs:=[],kw_defaults:=[],kwarg:=none,defaults:=[]}
def cH(s:Rx):List Rx:=match s with|.FunctionDef _ _ b _ _ _ _ _ _ _=>b|_=>[]
def aj(s:Rx):RU:=match s with|.FunctionDef _ _ _ _ _ _ sc _ _ _=>sc|_=>{kind:=.function,names:=[],isGenerator:=false,isCoroutine:=false}
end L2
namespace V90
open PySem PySem.Spec PyProof.Rows L2
def top(i:Nat):Rx:=RT.main.body.getD i (.Pass ⟨0,0,0,0⟩)
abbrev dm:Rx:=top 21
abbrev gK:Rx:=top 22
abbrev cD:Rx:=top 23
abbrev iA:Rx:=top 24
abbrev di:Rx:=top 25
abbrev gL:Rx:=top 39
abbrev fU:Rx:=top 41
abbrev iz:Rx:=top 43
abbrev eZ:Rx:=top 44
abbrev jA:Rx:=top 46
abbrev cE:Rx:=top 57
abbrev iO:Rx:=top 59
abbrev gJ:Rx:=top 62
abbrev eY:Rx:=top 63
abbrev om:Rx:=top 67
abbrev ol:Rx:=top 68
abbrev lu:Rx:=top 69
abbrev xK:Rx:=top 70
abbrev xN:Rx:=top 71
abbrev lr:Rx:=top 72
abbrev oq:Rx:=top 73
abbrev rX:Rx:=top 74
abbrev xO:Rx:=top 75
abbrev jz:Rx:=top 76
abbrev uq:Rx:=top 77
abbrev lq:Rx:=top 78
abbrev jy:Rx:=top 79
abbrev rV:Rx:=top 80
abbrev iN:Rx:=top 81
abbrev iM:Rx:=top 82
abbrev uo:Rx:=top 83
abbrev rW:Rx:=top 84
abbrev pk:Rx:=top 85
abbrev oo:Rx:=top 86
abbrev rZ:Rx:=top 87
def BL:Rx->Nat->Rx|.ClassDef _ _ _ body _ _ _ _ _ _ _,j=>body.getD j (.Pass ⟨0,0,0,0⟩)|s,_=>s
abbrev dZ:Rx:=BL (top 65) 0
abbrev kb:Rx:=BL (top 65) 1
abbrev d9:Rx:=BL (top 65) 2
abbrev cK:Rx:=BL (top 65) 3
abbrev dC:Rx:=BL (top 65) 4
def kL(n:Str)(bs mro:List Oq)(ns:xM)(sub:List Oq)(sl:Array (Option Oq)):Obj:=⟨.type "type",none,.cls {name:=n,bases:=bs,mro:=mro,ns:=ns,qualname:=n,hasDict:=true,slotNames:=[],subclasses:=sub,abstract:=false,collection:=none,hasDel:=false},sl⟩
def kM(n q:Str)(s:Rx)(doc pm:Oq)(c:xM):Obj:=⟨.type "function",none,.func (SZ n q (dY s) (cH s) (aj s) .none .none doc pm none (.ref c) .none),#[]⟩
def kD(n q:Str)(a:Nat)(l:List Oq)(z:Nat):Obj:=⟨.type "code",none,.fields (Value.str n a::Value.str q (a+1)::Value.str "/claim/cut.py" (a+2)::l++[Value.str "/claim/cut.py" z]).toArray,#[]⟩
def kE(P:Params)(k:Str)(t:Tok)(v:Oq):Ur:=⟨PyData.keyHash P k,.str k t,v⟩
def kF(n:Str)(s:Rx)(doc pm:Oq)(c:xM):Obj:=⟨.type "function",none,.func (SZ n n (dY s) (cH s) (aj s) .none .none doc pm none (.ref c) .none),#[]⟩
def kI(n:Int):Oq:=.int n 0
def kC(n:Str)(a:Nat)(l:List Oq)(z:Nat):Obj:=⟨.type "code",none,.fields (Value.str n a::Value.str n (a+1)::Value.str "/claim/cut.py" (a+2)::l++[Value.str "/claim/cut.py" z]).toArray,#[]⟩
def kT(l:List Oq)(n:Nat):Obj:=⟨.type "tuple",none,.seq l.toArray n,#[]⟩
def Ek:Oq:=.str "askedpairs.stands" 337
def Md:Oq:=.str "askedpairs.lines" 439
def Me:Oq:=.str "askedpairs.runs" 466
def Nt:Oq:=.str "askedpairs.tablepaper" 480
def wz:Oq:=.str "askedpairs.desk" 555
def jb:Oq:=.str "law_askedpairs_k90_taken_back" 690
def kK(P:Params):Rj:=[(3,⟨.type "dict",none,.dict (List.toArray [kE P "__name__" 165 (.str "law_askedpairs_k90_taken_back" 690),kE P "__doc__" 166 (.none),kE P "__package__" 167 (.none),kE P "__loader__" 168 (.builtin "__main__.__loader__#opaque"),kE P "__spec__" 169 (.none),kE P "__annotations__" 170 (.ref 6),kE P "__builtins__" 171 (.ref 4),kE P "__file__" 173 (.str "/claim/cut.py" 172),kE P "__cached__" 174 (.none),kE P "PairsError" 206 (.ref 24),kE P "TooMany" 222 (.ref 37),kE P "refuse_above" 230 (.ref 46),kE P "ZERO" 235 (.ref 47),kE P "common_divisor" 243 (.ref 54),kE P "lowest" 252 (.ref 61),kE P "plus" 260 (.ref 68),kE P "times" 268 (.ref 75),kE P "less" 276 (.ref 82),kE P "one_less" 283 (.ref 89),kE P "total" 292 (.ref 96),kE P "column_to_enter" 300 (.ref 101),kE P "is_sooner" 310 (.ref 108),kE P "row_to_leave" 324 (.ref 115),kE P "exchanged" 330 (.ref 120),kE P "best_levels" 336 (.ref 125),kE P "FIRST_STAND" 339 (.ref 128),kE P "things_of" 347 (.ref 135),kE P "many_asks" 353 (.ref 140),kE P "bears_one_more" 364 (.ref 147),kE P "may_ask" 370 (.ref 152),kE P "stand_behind" 382 (.ref 159),kE P "END" 385 (.int (-1) 384),kE P "gain_of" 394 (.ref 166),kE P "shares_worth" 402 (.ref 171),kE P "MOST_TIES_OF_BOUND" 406 (.int (10) 405),kE P "rows_of" 412 (.ref 176),kE P "limits_of" 423 (.ref 183),kE P "as_prices" 432 (.ref 190),kE P "bound" 438 (.ref 195),kE P "MOST_FIGURES" 442 (.int (4) 441),kE P "number_of" 450 (.ref 202),kE P "fraction_word" 459 (.ref 209),kE P "row_line" 465 (.ref 214),kE P "kept_of" 473 (.ref 219),kE P "worth_kept" 479 (.ref 224),kE P "asks_at" 487 (.ref 229),kE P "both_ways" 498 (.ref 236),kE P "ways_at" 504 (.ref 241),kE P "ways_worth" 510 (.ref 246),kE P "MOST_TIES_OF_TABLE" 514 (.int (7) 513),kE P "layers_by_asks" 520 (.ref 251),kE P "best_ask" 532 (.ref 258),kE P "table_by" 546 (.ref 265),kE P "table_of" 554 (.ref 272),kE P "stand_of_run" 567 (.ref 279),kE P "web_left" 573 (.ref 284),kE P "may_line" 582 (.ref 291),kE P "best_line" 588 (.ref 296),kE P "bound_line" 596 (.ref 303),kE P "kept_line" 605 (.ref 310),kE P "tie_to_ask" 615 (.ref 317),kE P "QUESTIONS" 624 (.ref 318),kE P "Desk" 689 (.ref 363),kE P "_law_mixed" 700 (.ref 374),kE P "_law_draws" 711 (.ref 381),kE P "_law_next" 718 (.ref 388),kE P "_law_gcd" 726 (.ref 395),kE P "_law_low" 735 (.ref 402),kE P "_law_chance" 744 (.ref 409),kE P "_law_worth" 752 (.ref 416),kE P "_law_ties" 771 (.ref 423),kE P "_law_web" 787 (.ref 430),kE P "_law_asks_of" 793 (.ref 435),kE P "_law_may" 805 (.ref 442),kE P "_law_behind" 818 (.ref 449),kE P "_law_askable" 824 (.ref 454),kE P "_law_kept" 830 (.ref 459),kE P "_law_stand_of" 841 (.ref 466),kE P "_law_row_text" 847 (.ref 471),kE P "_law_due" 853 (.ref 476),kE P "_law_line" 864 (.ref 483),kE P "_law_told" 874 (.ref 490),kE P "_law_right" 884 (.ref 497),kE P "law" 890 (.ref 502)]) 84,#[]⟩),(135,kF "things_of" dm (.none) Ek 134),(134,kC "things_of" 340 [kI 75,kI 2,kI 0,kI 0,kI 3,.ref 129,.bool true,kI 181,.ref 130,.none,.ref 131,.ref 132,.ref 133,kI 345,kI 75] 346),(140,kF "many_asks" gK (.none) Ek 139),(139,kC "many_asks" 348 [kI 77,kI 3,kI 0,kI 0,kI 3,.ref 136,.bool true,kI 181,.ref 137,.none,.none,.none,.ref 138,kI 351,kI 77] 352),(147,kF "bears_one_more" cD (.none) Ek 146),(146,kC "bears_one_more" 354 [kI 79,kI 3,kI 0,kI 0,kI 3,.ref 141,.bool true,kI 181,.ref 142,.none,.ref 143,.ref 144,.ref 145,kI 362,kI 79] 363),(152,kF "may_ask" iA (.none) Ek 151),(151,kC "may_ask" 365 [kI 82,kI 3,kI 0,kI 0,kI 3,.ref 148,.bool true,kI 181,.ref 149,.none,.none,.none,.ref 150,kI 368,kI 82] 369),(159,kF "stand_behind" di (.none) Ek 158),(158,kC "stand_behind" 371 [kI 87,kI 4,kI 0,kI 0,kI 3,.ref 153,.bool true,kI 181,.ref 154,.none,.ref 155,.ref 156,.ref 157,kI 380,kI 87] 381),(202,kF "number_of" gL (.none) Md 201),(201,kC "number_of" 443 [kI 122,kI 1,kI 0,kI 0,kI 3,.ref 196,.bool true,kI 181,.ref 197,.none,.ref 198,.ref 199,.ref 200,kI 448,kI 122] 449),(214,kF "row_line" fU (.none) Md 213),(213,kC "row_line" 460 [kI 130,kI 1,kI 0,kI 0,kI 3,.ref 210,.bool true,kI 181,.ref 211,.none,.none,.none,.ref 212,kI 463,kI 130] 464),(219,kF "kept_of" iz (.none) Me 218),(218,kC "kept_of" 468 [kI 133,kI 1,kI 0,kI 0,kI 3,.ref 215,.bool true,kI 181,.ref 216,.none,.none,.none,.ref 217,kI 471,kI 133] 472),(224,kF "worth_kept" eZ (.none) Me 223),(223,kC "worth_kept" 474 [kI 135,kI 2,kI 0,kI 0,kI 3,.ref 220,.bool true,kI 181,.ref 221,.none,.none,.none,.ref 222,kI 477,kI 135] 478),(229,kF "asks_at" jA (.none) Nt 228),(228,kC "asks_at" 482 [kI 138,kI 2,kI 0,kI 0,kI 3,.ref 225,.bool true,kI 181,.ref 226,.none,.none,.none,.ref 227,kI 485,kI 138] 486),(279,kF "stand_of_run" cE (.none) wz 278),(278,kC "stand_of_run" 557 [kI 177,kI 2,kI 0,kI 0,kI 3,.ref 273,.bool true,kI 181,.ref 274,.none,.ref 275,.ref 276,.ref 277,kI 565,kI 177] 566),(291,kF "may_line" iO (.none) wz 290),(290,kC "may_line" 574 [kI 188,kI 2,kI 0,kI 0,kI 3,.ref 285,.bool true,kI 181,.ref 286,.none,.ref 287,.ref 288,.ref 289,kI 580,kI 188] 581),(310,kF "kept_line" gJ (.none) wz 309),(309,kC "kept_line" 597 [kI 204,kI 2,kI 0,kI 0,kI 3,.ref 304,.bool true,kI 181,.ref 305,.none,.ref 306,.ref 307,.ref 308,kI 603,kI 204] 604),(317,kF "tie_to_ask" eY (.none) wz 316),(316,kC "tie_to_ask" 606 [kI 207,kI 2,kI 0,kI 0,kI 3,.ref 311,.bool true,kI 181,.ref 312,.none,.ref 313,.ref 314,.ref 315,kI 613,kI 207] 614),(374,kF "_law_mixed" om (.none) jb 373),(373,kC "_law_mixed" 692 [kI 257,kI 2,kI 0,kI 0,kI 3,.ref 368,.bool true,kI 181,.ref 369,.none,.ref 370,.ref 371,.ref 372,kI 698,kI 257] 699),(381,kF "_law_draws" ol (.none) jb 380),(380,kC "_law_draws" 701 [kI 260,kI 1,kI 0,kI 0,kI 3,.ref 375,.bool true,kI 181,.ref 376,.none,.ref 377,.ref 378,.ref 379,kI 709,kI 260] 710),(388,kF "_law_next" lu (.none) jb 387),(387,kC "_law_next" 712 [kI 273,kI 1,kI 0,kI 0,kI 3,.ref 382,.bool true,kI 181,.ref 383,.none,.ref 384,.ref 385,.ref 386,kI 716,kI 273] 717),(395,kF "_law_gcd" xK (.none) jb 394),(394,kC "_law_gcd" 719 [kI 277,kI 2,kI 0,kI 0,kI 3,.ref 389,.bool true,kI 181,.ref 390,.none,.ref 391,.ref 392,.ref 393,kI 724,kI 277] 725),(402,kF "_law_low" xN (.none) jb 401),(401,kC "_law_low" 727 [kI 281,kI 2,kI 0,kI 0,kI 3,.ref 396,.bool true,kI 181,.ref 397,.none,.ref 398,.ref 399,.ref 400,kI 733,kI 281] 734),(409,kF "_law_chance" lr (.none) jb 408),(408,kC "_law_chance" 736 [kI 284,kI 2,kI 0,kI 0,kI 3,.ref 403,.bool true,kI 181,.ref 404,.none,.ref 405,.ref 406,.ref 407,kI 742,kI 284] 743),(416,kF "_law_worth" oq (.none) jb 415),(415,kC "_law_worth" 745 [kI 294,kI 2,kI 0,kI 0,kI 3,.ref 410,.bool true,kI 181,.ref 411,.none,.ref 412,.ref 413,.ref 414,kI 750,kI 294] 751),(423,kF "_law_ties" rX (.none) jb 422),(422,kC "_law_ties" 753 [kI 296,kI 3,kI 0,kI 0,kI 3,.ref 417,.bool true,kI 181,.ref 418,.none,.ref 419,.ref 420,.ref 421,kI 769,kI 296] 770),(430,kF "_law_web" xO (.none) jb 429),(429,kC "_law_web" 772 [kI 311,kI 3,kI 0,kI 0,kI 3,.ref 424,.bool true,kI 181,.ref 425,.none,.ref 426,.ref 427,.ref 428,kI 785,kI 311] 786),(435,kF "_law_asks_of" jz (.none) jb 434),(434,kC "_law_asks_of" 788 [kI 321,kI 3,kI 0,kI 0,kI 3,.ref 431,.bool true,kI 181,.ref 432,.none,.none,.none,.ref 433,kI 791,kI 321] 792),(442,kF "_law_may" uq (.none) jb 441),(441,kC "_law_may" 794 [kI 323,kI 3,kI 0,kI 0,kI 3,.ref 436,.bool true,kI 181,.ref 437,.none,.ref 438,.ref 439,.ref 440,kI 803,kI 323] 804),(449,kF "_law_behind" lq (.none) jb 448),(448,kC "_law_behind" 806 [kI 331,kI 4,kI 0,kI 0,kI 3,.ref 443,.bool true,kI 181,.ref 444,.none,.ref 445,.ref 446,.ref 447,kI 816,kI 331] 817),(454,kF "_law_askable" jy (.none) jb 453),(453,kC "_law_askable" 819 [kI 337,kI 2,kI 0,kI 0,kI 3,.ref 450,.bool true,kI 181,.ref 451,.none,.none,.none,.ref 452,kI 822,kI 337] 823),(459,kF "_law_kept" rV (.none) jb 458),(458,kC "_law_kept" 825 [kI 339,kI 2,kI 0,kI 0,kI 3,.ref 455,.bool true,kI 181,.ref 456,.none,.none,.none,.ref 457,kI 828,kI 339] 829),(466,kF "_law_stand_of" iN (.none) jb 465),(465,kC "_law_stand_of" 831 [kI 341,kI 2,kI 0,kI 0,kI 3,.ref 460,.bool true,kI 181,.ref 461,.none,.ref 462,.ref 463,.ref 464,kI 839,kI 341] 840),(471,kF "_law_row_text" iM (.none) jb 470),(470,kC "_law_row_text" 842 [kI 346,kI 1,kI 0,kI 0,kI 3,.ref 467,.bool true,kI 181,.ref 468,.none,.none,.none,.ref 469,kI 845,kI 346] 846),(476,kF "_law_due" uo (.none) jb 475),(475,kC "_law_due" 848 [kI 350,kI 3,kI 0,kI 0,kI 3,.ref 472,.bool true,kI 181,.ref 473,.none,.none,.none,.ref 474,kI 851,kI 350] 852),(483,kF "_law_line" rW (.none) jb 482),(482,kC "_law_line" 854 [kI 375,kI 3,kI 0,kI 0,kI 3,.ref 477,.bool true,kI 181,.ref 478,.none,.ref 479,.ref 480,.ref 481,kI 862,kI 375] 863),(490,kF "_law_told" pk (.none) jb 489),(489,kC "_law_told" 865 [kI 383,kI 3,kI 0,kI 0,kI 3,.ref 484,.bool true,kI 181,.ref 485,.none,.ref 486,.ref 487,.ref 488,kI 872,kI 383] 873),(497,kF "_law_right" oo (.none) jb 496),(496,kC "_law_right" 875 [kI 386,kI 4,kI 0,kI 0,kI 3,.ref 491,.bool true,kI 181,.ref 492,.none,.ref 493,.ref 494,.ref 495,kI 882,kI 386] 883),(502,kF "law" rZ (.none) jb 501),(501,kC "law" 885 [kI 390,kI 1,kI 0,kI 0,kI 3,.ref 498,.bool true,kI 181,.ref 499,.none,.none,.none,.ref 500,kI 888,kI 390] 889),(332,kM "__init__" "Desk.__init__" dZ (.none) wz 331),(331,kD "__init__" "Desk.__init__" 637 [kI 216,kI 2,kI 0,kI 0,kI 3,.ref 326,.bool true,kI 181,.ref 327,.none,.ref 328,.ref 329,.ref 330,kI 642,kI 216] 643),(339,kM "say" "Desk.say" kb (.none) wz 338),(338,kD "say" "Desk.say" 645 [kI 221,kI 2,kI 0,kI 0,kI 3,.ref 333,.bool true,kI 181,.ref 334,.none,.ref 335,.ref 336,.ref 337,kI 652,kI 221] 653),(346,kM "take_ask" "Desk.take_ask" d9 (.none) wz 345),(345,kD "take_ask" "Desk.take_ask" 655 [kI 234,kI 2,kI 0,kI 0,kI 3,.ref 340,.bool true,kI 181,.ref 341,.none,.ref 342,.ref 343,.ref 344,kI 660,kI 234] 661),(353,kM "take_answer" "Desk.take_answer" cK (.none) wz 352),(352,kD "take_answer" "Desk.take_answer" 663 [kI 240,kI 2,kI 0,kI 0,kI 3,.ref 347,.bool true,kI 181,.ref 348,.none,.ref 349,.ref 350,.ref 351,kI 669,kI 240] 670),(360,kM "take_back" "Desk.take_back" dC (.none) wz 359),(359,kD "take_back" "Desk.take_back" 672 [kI 248,kI 1,kI 0,kI 0,kI 3,.ref 354,.bool true,kI 181,.ref 355,.none,.ref 356,.ref 357,.ref 358,kI 676,kI 248] 677),(47,kT [.int (0) 233,.int (1) 234] 0),(128,kT [.ref 126,.ref 127] 0),(126,kT [] 0),(127,kT [] 0),(318,⟨.type "dict",none,.dict (List.toArray [kE P "may" 616 (.ref 291),kE P "best" 617 (.ref 296),kE P "bound" 618 (.ref 303),kE P "kept" 619 (.ref 310)]) 4,#[]⟩),(363,kL "Desk" [.type "object"] [.ref 363,.type "object"] 362 [] #[none,none,some (.str "Desk" 625),some (.str "Desk" 633),some (.builtin "object.__new__"),some (.bool true)]),(362,⟨.type "dict",none,.dict (List.toArray [kE P "__module__" 632 (.str "askedpairs.desk" 555),kE P "__firstlineno__" 636 (.int (214) 635),kE P "__init__" 644 (.ref 332),kE P "say" 654 (.ref 339),kE P "take_ask" 662 (.ref 346),kE P "take_answer" 671 (.ref 353),kE P "take_back" 678 (.ref 360),kE P "__static_attributes__" 682 (.ref 361),kE P "__dict__" 684 (.ref 364),kE P "__weakref__" 686 (.ref 365),kE P "__doc__" 687 (.none)]) 4,#[]⟩)]
def kA:List xM:=[3,135,134,140,139,147,146,152,151,159,158,202,201,214,213,219,218,224,223,229,228,279,278,291,290,310,309,317,316,374,373,381,380,388,387,395,394,402,401,409,408,416,415,423,422,430,429,435,434,442,441,449,448,454,453,459,458,466,465,471,470,476,475,483,482,490,489,497,496,502,501,332,331,339,338,346,345,353,352,360,359,47,128,126,127,318,363,362]
def kq:Rw:={RT with main:={RT.main with body:=[top 1,top 2,top 3,top 5,top 6,top 7,top 8,top 9,top 10,top 11,top 12,top 14,top 15,top 16,top 17,top 18,top 20,top 21,top 22,top 23,top 24,top 25,top 26,top 28,top 30,top 32,top 33,top 34,top 35,top 36,top 38,top 39,top 40,top 41,top 43,top 44,top 46,top 47,top 48,top 49,top 51,top 52,top 53,top 54,top 55,top 57,top 58,top 59,top 60,top 61,top 62,top 63,top 64,top 65,top 67,top 68,top 69,top 70,top 71,top 72,top 73,top 74,top 75,top 76,top 77,top 78,top 79,top 80,top 81,top 82,top 83,top 84,top 85,top 86,top 87]}}
def kH:W.Hook:=W.kHook kK kA (λ_=>by kernel_rfl)
abbrev lX(s:Rg):Bool:=W.xlAt kq [] s&&W.recOk (W.RowW.records (W.OpenRow.toRowW (W.OpenLaw.row VL))) s
def Aq(p:Rw)(w:Ro):Nat->W.SharedT->Thread->Option W.SharedT|0,_,_=>none|n+1,s,t=>match W.through t with|true=>some s|false=>match W.stepOk 11 (some (.ref 6)) t with|false=>none|true=>match W.stepT (denote treeTable) p w s t with|some (x,y)=>Aq p w n x y|none=>none
theorem Hv{p:Rw}{w:Ro}:∀{n:Nat}{s r:W.SharedT}{t:Thread},Aq p w n s t=some r->W.topRun treeTable p w 11 (some (.ref 6)) n s.abs t=some r.abs
 |0,_,_,_,h=>by cases h|n+1,s,r,t,h=>by
  unfold Aq at h;unfold W.topRun;split at h;·next e=>rw[e];cases h;rfl
  ·next e=>
   rw[e];split at h;·cases h
   ·next k=>
    rw[k];split at h;·next g=>rw[W.stepT_spec g];exact Hv h
    ·cases h
def Hu:List Obj->Nat->W.BT->W.BT|[],_,t=>t|o::r,n,t=>Hu r (n+1) (t.ins n o)
noncomputable def L5(w:Ro)(os:OsState):W.SharedT:=⟨Hu (Uc w.params).objs.toList 0 .nil,11,(Uc w.params).life,#[],W.boot_drawn,W.boot_toks,os⟩
theorem J7:(λw os=>(L5 w os).abs)=λw os=>⟨Uc w.params,#[],W.boot_drawn,W.boot_toks,os⟩:=by kernel_rfl
theorem L4:(λw:Ro=>((Uc w.params).isNs Se,(Uc w.params).objs.size,(Uc w.params).nsMap Se "__annotations__"))=λ_=>(true,11,some (.ref 6)):=by kernel_rfl
noncomputable def sO(p:Rw)(w:Ro)(s:Rg):Bool:=W.staticsOk (SG p.main.body) (Uc w.params) s.heap&&W.namesBound p s.heap&&W.gensDone s&&W.laidKept (Uc w.params) s.heap
def pE(p:Rw)(r:Ro->Ro)(N:Nat){α:Type}(f:Ro->Rg->α)(a:Ro->α):Prop:=∀w,(λos=>(Aq p (r w) N (L5 w os) (W.topStub p)).map λx=>f w x.abs)=λ_=>some (a (r w))
theorem GG{p q:Rw}{L:List Str}{X:Rg->Bool}{α:Type}{Yf:Rg->α}{Ya:Ro->α}{N:Nat}(o:W.opening p=W.plainProg p.main.scope.names)(hN:Nat.ble 600 N=true)(fe:fenceModules? p=some)(h:∀w,∃r:Ro->Ro,r w=w/\pE p r N (λw s=>(sO p w s,SO q L (SG p.main.body) X true s,Yf s)) λw=>(true,W.openGood q L,Ya w)):W.LeftO p q L X Yf Ya N:=λw=>by
 obtain⟨s,e,k⟩:=VM.1 (W.boot_open (N:=N) o hN (λs=>congrFun fe s) w);obtain⟨r,rw1,h⟩:=h w;obtain⟨H,g,d,t,os⟩:=s;cases k;have z:=congrFun (h w) os;rw[rw1]at z;obtain⟨y,ey,hy⟩:=VM.1 z;have a:=Hv ey;rw[congrFun (congrFun J7 w) os]at a;have b:=congrFun L4 w;simp only[Prod.mk.injEq]at b hy;have c:W.topFrom treeTable p w N ⟨Uc w.params,#[],W.boot_drawn,W.boot_toks,os⟩=some y.abs:=by unfold W.topFrom;dsimp only;rw[b.1,b.2.1,b.2.2,a];have m:=hy.1;unfold sO at m;simp only[RK,m];rfl
 unfold W.openEnds;rw[e,RK];exact(congrArg (Option.map _) c).trans (congrArg some (Prod.ext hy.2.1 hy.2.2))
theorem J8{p:Rw}{N:Nat}{α:Type}{f:Ro->Rg->α}{a:Ro->α}{row:String}(h:∀b,pE p (λw=>w.withFollow row b) N f a):∀w:Ro,∃r:Ro->Ro,r w=w/\pE p r N f a:=λw=>⟨_,World.withFollow_self w row,h (w.params.followText row)⟩
theorem IA:pE RT (λw=>w.withFollow "special-get-raises" false) 6030 (λv s=>(sO RT v s,(SO kq ["QUESTIONS"] (SG RT.main.body) lX true s).1)) (λv=>(true,expectedOf kq)):=λw=>by kernel_rfl
theorem IC:pE RT (λw=>w.withFollow "special-get-raises" false) 6030 (λv s=>((SO kq ["QUESTIONS"] (SG RT.main.body) lX true s).2.1,(SO kq ["QUESTIONS"] (SG RT.main.body) lX true s).2.2.1)) (λv=>(bltViewBooted,true)):=λw=>by kernel_rfl
theorem IE:pE RT (λw=>w.withFollow "special-get-raises" false) 6030 (λv s=>(SO kq ["QUESTIONS"] (SG RT.main.body) lX true s).2.2.2.1) (λv=>true):=λw=>by kernel_rfl
theorem IG:pE RT (λw=>w.withFollow "special-get-raises" false) 6030 (λv s=>((SO kq ["QUESTIONS"] (SG RT.main.body) lX true s).2.2.2.2.1,(SO kq ["QUESTIONS"] (SG RT.main.body) lX true s).2.2.2.2.2.1)) (λv=>(pinGoodD (drecsOf kq),plainGoodE kq (W.looseW kq ["QUESTIONS"]))):=λw=>by kernel_rfl
theorem II:pE RT (λw=>w.withFollow "special-get-raises" false) 6030 (λv s=>((SO kq ["QUESTIONS"] (SG RT.main.body) lX true s).2.2.2.2.2.2,W.Hook.obs kH s)) (λv=>((plainGoodD kq ["QUESTIONS"],W.wideGood kq,W.clsGoodW kq ["QUESTIONS"]),W.Hook.val kH v)):=λw=>by kernel_rfl
theorem IB:pE RT (λw=>w.withFollow "special-get-raises" true) 6030 (λv s=>(sO RT v s,(SO kq ["QUESTIONS"] (SG RT.main.body) lX true s).1)) (λv=>(true,expectedOf kq)):=λw=>by kernel_rfl
theorem ID:pE RT (λw=>w.withFollow "special-get-raises" true) 6030 (λv s=>((SO kq ["QUESTIONS"] (SG RT.main.body) lX true s).2.1,(SO kq ["QUESTIONS"] (SG RT.main.body) lX true s).2.2.1)) (λv=>(bltViewBooted,true)):=λw=>by kernel_rfl
theorem IF:pE RT (λw=>w.withFollow "special-get-raises" true) 6030 (λv s=>(SO kq ["QUESTIONS"] (SG RT.main.body) lX true s).2.2.2.1) (λv=>true):=λw=>by kernel_rfl
theorem IH:pE RT (λw=>w.withFollow "special-get-raises" true) 6030 (λv s=>((SO kq ["QUESTIONS"] (SG RT.main.body) lX true s).2.2.2.2.1,(SO kq ["QUESTIONS"] (SG RT.main.body) lX true s).2.2.2.2.2.1)) (λv=>(pinGoodD (drecsOf kq),plainGoodE kq (W.looseW kq ["QUESTIONS"]))):=λw=>by kernel_rfl
theorem IJ:pE RT (λw=>w.withFollow "special-get-raises" true) 6030 (λv s=>((SO kq ["QUESTIONS"] (SG RT.main.body) lX true s).2.2.2.2.2.2,W.Hook.obs kH s)) (λv=>((plainGoodD kq ["QUESTIONS"],W.wideGood kq,W.clsGoodW kq ["QUESTIONS"]),W.Hook.val kH v)):=λw=>by kernel_rfl
noncomputable def Nh(v:Ro)(s:Rg):=(sO RT v s,(SO kq ["QUESTIONS"] (SG RT.main.body) lX true s),W.Hook.obs kH s)
noncomputable def Ng(v:Ro):=(true,W.openGood kq ["QUESTIONS"],W.Hook.val kH v)
theorem L3{τ β0 β1 β2 β3 β4 β5 β6 β7 β8:Type}{o:Option τ}{a0:τ->β0}{a1:τ->β1}{a2:τ->β2}{a3:τ->β3}{a4:τ->β4}{a5:τ->β5}{a6:τ->β6}{a7:τ->β7}{a8:τ->β8}{c0:β0}{c1:β1}{c2:β2}{c3:β3}{c4:β4}{c5:β5}{c6:β6}{c7:β7}{c8:β8}(h:o.map (λx=>(a0 x,a1 x))=some (c0,c1))(k:o.map (λx=>(a2 x,a3 x))=some (c2,c3))(n:o.map a4=some c4)(l:o.map (λx=>(a5 x,a6 x))=some (c5,c6))(m:o.map (λx=>(a7 x,a8 x))=some (c7,c8)):o.map (λx=>(a0 x,(a1 x,a2 x,a3 x,a4 x,a5 x,a6 x,a7 x),a8 x))=some (c0,(c1,c2,c3,c4,c5,c6,c7),c8):=by cases o with|none=>cases h|some x=>simp only[SE,Us,Prod.mk.injEq]at h k l m n⊢;exact⟨h.1,⟨h.2,k.1,k.2,n,l.1,l.2,m.1⟩,m.2⟩
theorem left:W.LeftO RT kq ["QUESTIONS"] lX (W.Hook.obs kH) (W.Hook.val kH) 6030:=GG (by kernel_rfl) (by kernel_rfl) (by kernel_rfl) (J8 (row:="special-get-raises") (f:=Nh) (a:=Ng) λb=>match b with|false=>λw=>funext λos=>L3 (congrFun (IA w) os) (congrFun (IC w) os) (congrFun (IE w) os) (congrFun (IG w) os) (congrFun (II w) os)|true=>λw=>funext λos=>L3 (congrFun (IB w) os) (congrFun (ID w) os) (congrFun (IF w) os) (congrFun (IH w) os) (congrFun (IJ w) os))
end V90
namespace L2
open PySem PySem.Spec PyProof.Rows
theorem Q6{α:Type _}{β:Type _}{o:Option α}{f:α->Option β}{b:β}(h:o.bind f=some b):∃a,o=some a/\f a=some b:=Option.bind_eq_some_iff.mp h
theorem Q7{α:Type _}{β:Type _}{o:Option α}{f:α->β}{b:β}(h:o.map f=some b):∃a,o=some a/\f a=b:=VM.mp h
theorem Q8{α:Type _}{l:List α}{i:Nat}{a:α}(h:l[i]?=some a):∃w:i<l.length,l[i]=a:=List.getElem?_eq_some_iff.mp h
theorem Q9{α:Type _}{a:α}{s t:List α}(h:a∈s++t):a∈s\/a∈t:=SH.mp h
theorem Q_{α:Type _}{β:Type _}{b:β}{f:α->β}{l:List α}(h:b∈l.map f):∃a,a∈l/\f a=b:=UG.mp h
theorem Re{α:Type _}{a b:α}{l:List α}(h:a∈b::l):a=b\/a∈l:=Su.mp h
theorem Rf{α:Type _}{l:List α}{i:Nat}{a:α}(h:l[i]?=some a):a∈l:=List.mem_of_getElem? h
abbrev ko:=Sum Int Str
def xb:ko->Oq->Bool|.inl k,v=>Value.isInt k v|.inr x,v=>Value.isStrOf x v
def MR(w:Ro):ko->Int|.inl k=>hashInt k|.inr x=>hashStr w x
theorem cg:∀{k:ko}{v:Oq},xb k v=true->(∃i t,k=Sum.inl i/\v=Value.int i t)\/(∃x t,k=Sum.inr x/\v=Value.str x t)|.inl i,v,h=>by obtain⟨t,e⟩:=Value.isInt_shape (k:=i) (v:=v) h;exact .inl ⟨i,t,rfl,e⟩|.inr x,v,h=>by obtain⟨t,e⟩:=Value.isStrOf_shape (x:=x) (v:=v) h;exact .inr ⟨x,t,rfl,e⟩
theorem lI(x:Str)(t:Tok):xb (.inr x) (.str x t)=true:=by simp[xb,Value.isStrOf]
theorem Ii(a b:Int):decide ((Sum.inl a:ko)=Sum.inl b)=(a==b):=by
 by_cases e:a=b;·subst e;simp
 ·have h:¬(Sum.inl a:ko)=Sum.inl b:=λq=>e (Sum.inl.inj q);rw[decide_eq_false h];exact(beq_eq_false_iff_ne.mpr e).symm
theorem Il(a b:Str):decide ((Sum.inr a:ko)=Sum.inr b)=decide (a=b):=by
 by_cases e:a=b;·subst e;simp
 ·have h:¬(Sum.inr a:ko)=Sum.inr b:=λq=>e (Sum.inr.inj q);rw[decide_eq_false h,decide_eq_false e]
theorem Ij(a:Int)(b:Str):decide ((Sum.inl a:ko)=Sum.inr b)=false:=decide_eq_false (λq=>nomatch q)
theorem Ik(a:Str)(b:Int):decide ((Sum.inr a:ko)=Sum.inl b)=false:=decide_eq_false (λq=>nomatch q)
def f_(prog:Rw)(w:Ro):PySem.KeyKind prog w ko where
 is:=xb;hash:=MR w;inj:=λv a b ha hb=>by
  rcases cg ha with⟨i,t,rfl,rfl⟩|⟨x,t,rfl,rfl⟩
  ·rcases cg hb with⟨j,u,rfl,e⟩|⟨y,u,rfl,e⟩;·injection e with e1 _;rw[e1]
   ·exact nomatch e
  ·rcases cg hb with⟨j,u,rfl,e⟩|⟨y,u,rfl,e⟩;·exact nomatch e
   ·injection e with e1 _;rw[e1]
 byValue:=λk v h=>by rcases cg h with⟨i,t,rfl,rfl⟩|⟨x,t,rfl,rfl⟩<;>rfl
 pyHash:=λhv h=>by
  rcases cg hv with⟨i,t,rfl,rfl⟩|⟨x,t,rfl,rfl⟩;·exact wpAny_pyHash_int h
  ·exact wpAny_pyHash_str h
 eqBool:=λhu hv h=>by
  rcases cg hu with⟨i,t,rfl,rfl⟩|⟨x,t,rfl,rfl⟩
  ·rcases cg hv with⟨j,u,rfl,rfl⟩|⟨y,u,rfl,rfl⟩;·rw[Ii]at h;exact wpAny_eqBool_int h
   ·rw[Ij]at h;exact SeqAt.EqAt.int_str i t y u _ _ _ _ h
  ·rcases cg hv with⟨j,u,rfl,rfl⟩|⟨y,u,rfl,rfl⟩;·rw[Ik]at h;exact SeqAt.EqAt.str_int x t j u _ _ _ _ h
   ·rw[Il]at h;exact wpAny_eqBool_str h
 «strs»:=λk x t v h=>by
  rcases cg h with⟨i,u,rfl,e⟩|⟨y,u,rfl,e⟩;·exact nomatch e
  ·injection e with e1 _;subst e1;cases v<;>rfl
inductive V where|non|bl (b:Bool)|int (i:Int)|str (x:Str)|byt (b:Array UInt8)|flt (b:UInt64)|ref (a:xM)|ty (n:String)deriving DecidableEq
def bW:V->Oq->Prop|.non,u=>u=Value.none|.bl b,u=>u=Value.bool b|.int i,u=>∃t,u=Value.int i t|.str x,u=>∃t,u=Value.str x t|.byt b,u=>∃t,u=Value.bytes b t|.flt b,u=>∃t,u=Value.float b t|.ref a,u=>u=Value.ref a|.ty n,u=>u=Value.type n
abbrev aW:List V->List Oq->Prop:=Paired bW
theorem aW.length{xs:List V}{us:List Oq}(r:aW xs us):xs.length=us.length:=Paired.length r
theorem aW.get:∀{xs:List V}{us:List Oq}{i:Nat}{x:V},aW xs us->xs[i]?=some x->∃u,us[i]?=some u/\bW x u|_,_,_,_,.nil,e=>by simp at e|_,_,0,_,.cons r _,e=>by simp at e;subst e;exact⟨_,rfl,r⟩|_,_,i+1,x,.cons _ t,e=>by obtain⟨u,h1,h2⟩:=aW.get (i:=i) (x:=x) t (by simpa using e);exact⟨u,by simpa using h1,h2⟩
theorem aW.append:∀{xs ys:List V}{us ws:List Oq},aW xs us->aW ys ws->aW (xs++ys) (us++ws)|_,_,_,_,.nil,s=>s|_,_,_,_,.cons r t,s=>.cons r (aW.append t s)
theorem aW.take:∀{xs:List V}{us:List Oq}(n:Nat),aW xs us->aW (xs.take n) (us.take n)|_,_,0,_=>.nil|_,_,_+1,.nil=>.nil|_,_,n+1,.cons r t=>.cons r (aW.take n t)
theorem aW.drop:∀{xs:List V}{us:List Oq}(n:Nat),aW xs us->aW (xs.drop n) (us.drop n)|_,_,0,r=>r|_,_,_+1,.nil=>.nil|_,_,n+1,.cons _ t=>aW.drop n t
def sR:Option V->Option Oq->Prop|some v,some u=>bW v u|none,none=>True|_,_=>False
def KV{κ:Type}:List (κ×V)->List (κ×Oq)->Prop:=Paired fun(p:κ×V) (q:κ×Oq)=>p.1=q.1/\bW p.2 q.2
def kV:ko->V|.inl i=>.int i|.inr x=>.str x
inductive HO where/--a list -/|lst (xs:List V)/--a tuple (never changes) -/|tup (xs:List V)/--a dict whose keys are ints and texts; one whose keys are tuples of ints and texts (the empty one is both) -/|dK (kvs:List (ko×V))|dT (kvs:List (List ko×V))/--a set of ints: its members, its size -/|set (S:Int->Bool) (n:Nat)/--an instance of the class at C, its dict at dx, its attributes -/|ins (C dx:xM) (fs:List (Str×V))/--the dict of the instance at x -/|own (x:xM)/--the dict of an exception -/|xd (fs:List (Str×V))/--a bound method, f of x -/|met (f x:xM)/--a range object lo, lo + 1, .. below hi -/|rng (lo hi:Int)/--a thing that is known to the object (the script; a dict while a loop walks it): read, never written while it is so -/|frz (o:Obj) (u:HO)/--a code object's table -/|tbl (ps:Array Oq)/--any other thing, by what is true of its one object (a def of one's own: SetO a S n := HO.ext fun h => ..) -/|ext (φ:Ru->Prop)
abbrev Hp:=xM->Option HO
def bg(H:Hp)(a:xM)(o:HO):Hp:=λb=>if b=a then some o else H b
theorem au{H:Hp}{a:xM}{o:HO}:bg H a o a=some o:=by unfold bg;rw[if_pos rfl]
theorem av{H:Hp}{a b:xM}{o:HO}(h:b≠a):bg H a o b=H b:=by unfold bg;rw[if_neg h]
theorem fJ{H:Hp}{a b:xM}{o:HO}(h:H a=some o)(h':H b=none):a≠b:=by intro e;subst e;rw[h]at h';cases h'
def sQ(h:Ru)(a:xM)(items:Array Oq):Prop:=∃o,h.get? a=some o/\o.cls=.type "tuple"/\∃n,o.data=.seq items n/\o.dict=none
theorem sQ.tup{h:Ru}{a:xM}{items:Array Oq}(x:sQ h a items):IsTup h a items:=let⟨o,ho,hc,n,hd,_⟩:=x;⟨o,ho,hc,n,hd⟩
theorem sQ.new(h:Ru)(items:Array Oq):sQ (h.push {cls:=.type "tuple",data:=.seq items}) h.objs.size items:=⟨_,SA _ rfl,rfl,_,rfl,rfl⟩
section
variable(P:Rw)(w:Ro)
def gQ(H:Hp)(h:Ru)(a:xM):HO->Prop|.lst xs=>xs.length<=RH/\∃(its:List Oq) (n:Nat),aW xs its/\h.get? a=some {cls:=.type "list",data:=.seq its.toArray n}|.tup xs=>xs.length<=RH/\∃its:List Oq,aW xs its/\sQ h a its.toArray|.dK kvs=>kvs.length<=RH/\(a==sysModules)=false/\∃vs,KV kvs vs/\h.DictOf (f_ P w) a vs|.dT kvs=>kvs.length<=RH/\(a==sysModules)=false/\∃xs:List (List ko×xM×Oq),Paired (fun(p:List ko×V) (q:List ko×xM×Oq)=>p.1=q.1/\H q.2.1=some (.tup (p.1.map kV))/\bW p.2 q.2.2) kvs xs/\∃o es ep,h.get? a=some o/\o.ExactDict/\o.data=.dict es ep/\es.toList=xs.map (entryOfKey (tupleKind (f_ P w)))/\(xs.map (·.1)).Nodup|.set S n=>h.SetOf (intKind P w) a S n|.ins C dx fs=>H dx=some (.own a)/\fs.length<=1000/\dx≠a/\h.get? a=some (Uk C dx)/\∃mA,h.Ns1 dx mA/\(∀f,sR (fs.lookup f) (mA f))/\PySem.Within mA (fs.map (·.1))|.own _=>∃o,h.get? a=some o|.xd fs=>∃mA,h.Ns1 a mA/\∀f,sR (fs.lookup f) (mA f)|.rng lo hi=>∃t u v,h.get? a=some {cls:=.type "range",data:=.fields #[.int lo t,.int hi u,.int 1 v]}|.frz o u=>h.get? a=some o/\gQ H h a u|.tbl ps=>h.get? a=some {cls:=.none,data:=.fields ps}|.met f x=>h.get? a=some (VN (.ref f) (.ref x))|.ext φ=>φ h/\(∃o,h.get? a=some o)/\∀h1 h2:Ru,φ h1->(∀o,h1.get? a=some o->h2.get? a=some o)->φ h2
def p_(H:Hp)(h:Ru):Prop:=∀a o,H a=some o->gQ P w H h a o
end
section
variable{P:Rw}{w:Ro}{H H':Hp}{h h':Ru}{a:xM}{o:HO}
theorem gQ.lt(x:gQ P w H h a o):a<h.objs.size:=by cases o with|lst xs=>obtain⟨_,_,_,_,e⟩:=x;exact RM e|tup xs=>obtain⟨_,_,_,p⟩:=x;exact p.tup.lt|dK kvs=>obtain⟨_,_,_,_,o,_,_,e,_⟩:=x;exact RM e|dT kvs=>obtain⟨_,_,_,_,o,_,_,e,_⟩:=x;exact RM e|set S n=>obtain⟨o,_,_,_,e,_⟩:=x;exact RM e|ins C dx fs=>obtain⟨_,_,_,e,_⟩:=x;exact RM e|own y=>obtain⟨_,e⟩:=x;exact RM e|xd fs=>obtain⟨_,⟨_,_,_,e,_⟩,_⟩:=x;exact RM e|rng lo hi=>obtain⟨_,_,_,e⟩:=x;exact RM e|frz ob u=>obtain⟨e,_⟩:=x;exact RM e|tbl ps=>exact RM (show h.get? a=some _ from x)|met f y=>exact RM (show h.get? a=some _ from x)|ext φ=>obtain⟨_,⟨_,e⟩,_⟩:=x;exact RM e
theorem Paired.mapP{α β:Type}{F G:α->β->Prop}:∀{l₁:List α}{l₂:List β},Paired F l₁ l₂->(∀a b,F a b->G a b)->Paired G l₁ l₂|_,_,.nil,_=>.nil|_,_,.cons r t,f=>.cons (f _ _ r) (Paired.mapP t f)
theorem gQ.stay(x:gQ P w H h a o)(k:∀b u,(b=a\/H b=some (.own a))->h.get? b=some u->h'.get? b=some u)(ho:∀b,H b=some (.own a)->H' b=some (.own a))(ht:∀b xs,H b=some (.tup xs)->H' b=some (.tup xs)):gQ P w H' h' a o:=by induction o with|lst xs=>obtain⟨z,its,n,r,e⟩:=x;exact⟨z,its,n,r,k _ _ (.inl rfl) e⟩|tup xs=>obtain⟨z,its,r,ob,e,c⟩:=x;exact⟨z,its,r,ob,k _ _ (.inl rfl) e,c⟩|dK kvs=>obtain⟨z,y,vs,r,ob,es,ep,e,c⟩:=x;exact⟨z,y,vs,r,ob,es,ep,k _ _ (.inl rfl) e,c⟩|dT kvs=>obtain⟨z,y,xs,r,ob,es,ep,e,c⟩:=x;exact⟨z,y,xs,Paired.mapP r λp q z=>⟨z.1,ht _ _ z.2.1,z.2.2⟩,ob,es,ep,k _ _ (.inl rfl) e,c⟩|set S n=>obtain⟨ob,es,ep,t,e,c⟩:=x;exact⟨ob,es,ep,t,k _ _ (.inl rfl) e,c⟩|ins C dx fs=>obtain⟨d,z,ne,e,mA,⟨od,es,ep,e2,c⟩,r⟩:=x;exact⟨ho _ d,z,ne,k _ _ (.inl rfl) e,mA,⟨od,es,ep,k _ _ (.inr d) e2,c⟩,r⟩|own y=>obtain⟨ob,e⟩:=x;exact⟨ob,k _ _ (.inl rfl) e⟩|xd fs=>obtain⟨mA,⟨od,es,ep,e,c⟩,r⟩:=x;exact⟨mA,⟨od,es,ep,k _ _ (.inl rfl) e,c⟩,r⟩|rng lo hi=>obtain⟨t,u,v,e⟩:=x;exact⟨t,u,v,k _ _ (.inl rfl) e⟩|frz ob u ih=>obtain⟨e,q⟩:=x;exact⟨k _ _ (.inl rfl) e,ih q⟩|tbl ps=>have e:h.get? a=some {cls:=.none,data:=.fields ps}:=x;show h'.get? a=some {cls:=.none,data:=.fields ps};exact k a _ (.inl rfl) e|met f y=>have e:h.get? a=some (VN (.ref f) (.ref y)):=x;show h'.get? a=some (VN (.ref f) (.ref y));exact k a _ (.inl rfl) e|ext φ=>obtain⟨p,⟨o,e⟩,st⟩:=x;exact⟨st _ _ p λo q=>k _ _ (.inl rfl) q,⟨o,k _ _ (.inl rfl) e⟩,st⟩
theorem p_.lt(x:p_ P w H h)(e:H a=some o):a<h.objs.size:=(x a o e).lt
theorem p_.fresh(x:p_ P w H h)(e:h.objs.size<=a):H a=none:=by cases q:H a with|none=>rfl|some u=>exact absurd (So (x.lt q) e) (Tw _)
theorem p_.kept(x:p_ P w H h)(k:∀b u,h.get? b=some u->h'.get? b=some u):p_ P w H h':=λa o e=>(x a o e).stay (λb u _ q=>k b u q) (λ_ q=>q) λ_ _ q=>q
theorem p_.laid(x:p_ P w H h)(k:∀b u,h.get? b=some u->h'.get? b=some u)(hp:h.objs.size<=a)(new:gQ P w (bg H a o) h' a o):p_ P w (bg H a o) h':=λb u e=>by
 have hn:=x.fresh hp;by_cases hb:b=a;·subst hb;rw[au]at e;cases e;exact new
 ·rw[av hb]at e;exact(x b u e).stay (λc v _ q=>k c v q) (λc q=>by rw[av (fJ q hn)];exact q) λc xs q=>by rw[av (fJ q hn)];exact q
end
def Rd(H:Hp)(a:xM)(u:HO):Prop:=H a=some u\/∃o,H a=some (.frz o u)
theorem Rd.ok{P:Rw}{w:Ro}{H:Hp}{h:Ru}{a:xM}{u:HO}(r:Rd H a u)(x:p_ P w H h):gQ P w H h a u:=by
 rcases r with r|⟨o,r⟩;·exact x a u r
 ·obtain⟨_,q⟩:=x a _ r;exact q
def L8:Option HO->Prop|some (.lst _)=>True|some (.dK _)=>True|some (.dT _)=>True|some (.set _ _)=>True|some (.ins _ _ _)=>True|some (.ext _)=>True|_=>False
section
variable{P:Rw}{w:Ro}{H:Hp}{h h':Ru}{x e:xM}{o':HO}
theorem p_.write(ok:p_ P w H h)(mu:L8 (H x))(he:e=x\/H e=some (.own x))(k:∀b u,b≠e->h.get? b=some u->h'.get? b=some u)(heo:∃u,h'.get? e=some u)(new:gQ P w (bg H x o') h' x o'):p_ P w (bg H x o') h':=λb u q=>by
 have nown:∀c y,H c=some (.own y)->c≠x:=λc y r z=>by subst z;rw[r]at mu;exact mu
 have ntup:∀c xs,H c=some (.tup xs)->c≠x:=λc xs r z=>by subst z;rw[r]at mu;exact mu
 by_cases hb:b=x;·subst hb;rw[au]at q;cases q;exact new
 ·rw[av hb]at q;by_cases hbe:b=e
  ·have q':H b=some (.own x):=by
    rcases he with z|z;·exact absurd (hbe.trans z) hb
    ·rw[hbe];exact z
   rw[q]at q';cases q';obtain⟨v,hv⟩:=heo;exact⟨v,by rw[hbe];exact hv⟩
  ·refine(ok b u q).stay (λc v hc r=>k c v ?_ r) (λc r=>by rw[av (nown c b r)];exact r) λc xs r=>by rw[av (ntup c xs r)];exact r
   rcases hc with rfl|hc;·exact hbe
   ·rintro rfl;rcases he with z|z;·exact nown c b hc z
    ·rw[hc]at z;cases z;exact hb rfl
end
structure Un (fs ex:List xM) (H H':Hp) (h h':Ru):Prop where
 keep:∀b o,h.get? b=some o->H b=none->b∉fs->b∉ex->h'.get? b=some o
 slot:∀b o,h.get? b=some o->H b=none->b∈fs->b∉ex->∃sl,h'.get? b=some {o with slots:=sl}free:∀b o,h.get? b=some o->H b=none->b∉ex->H' b=none
 there:∀b o,h.get? b=some o->b∉ex->∃o',h'.get? b=some o'
 tups:∀b xs,H b=some (.tup xs)->H' b=some (.tup xs)frzs:∀b o u,H b=some (.frz o u)->H' b=some (.frz o u)tbls:∀b ps,H b=some (.tbl ps)->∃more,H' b=some (.tbl (ps++more))
section
variable{fs fs' ex ex':List xM}{H H1 H2:Hp}{h h1 h2 h':Ru}{a x e:xM}{o:HO}
theorem Un.any(u:Un fs ex H H1 h h1){b:xM}{ob:Obj}(q:h.get? b=some ob)(n:H b=none)(hx:b∉ex):∃sl,h1.get? b=some {ob with slots:=sl}:=by
 by_cases hb:b∈fs;·exact u.slot b ob q n hb hx
 ·exact⟨ob.slots,u.keep b ob q n hb hx⟩
theorem Un.kept(k:∀b u,h.get? b=some u->h'.get? b=some u):Un fs ex H H h h':=⟨λb ob q _ _ _=>k b ob q,λb ob q _ _ _=>⟨ob.slots,k b ob q⟩,λ_ _ _ n _=>n,λb ob q _=>⟨ob,k b ob q⟩,λ_ _ q=>q,λ_ _ _ q=>q,λ_ ps q=>⟨#[],by rw[q];simp⟩⟩
theorem Un.refl:Un fs ex H H h h:=Un.kept λ_ _ q=>q
theorem Un.laid(k:∀b u,h.get? b=some u->h'.get? b=some u)(hp:h.objs.size<=a)(hn:H a=none):Un fs ex H (bg H a o) h h' where
 keep:=λb u q _ _ _=>k b u q;slot:=λb u q _ _ _=>⟨u.slots,k b u q⟩;free:=λb u q n _=>by rw[av (SJ (So (RM q) hp))];exact n
 there:=λb u q _=>⟨u,k b u q⟩;tups:=λb xs q=>by rw[av (fJ q hn)];exact q
 frzs:=λb u xs q=>by rw[av (fJ q hn)];exact q
 tbls:=λb ps q=>⟨#[],by rw[av (fJ q hn),q];simp⟩
theorem Un.write(mu:L8 (H x))(he:e=x\/H e=some (.own x))(k:∀b u,b≠e->h.get? b=some u->h'.get? b=some u)(heo:∃u,h'.get? e=some u):Un fs ex H (bg H x o) h h':=by
 have hx:∀b,H b=none->b≠x:=λb n z=>by subst z;rw[n]at mu;exact mu
 have hb:∀b,H b=none->b≠e:=λb n z=>by
  subst z;rcases he with r|r;·exact hx b n r
  ·rw[n]at r;cases r
 have hm:∀b u,H b=some u->¬L8 (some u)->b≠x:=λb u q nm z=>by subst z;rw[q]at mu;exact nm mu
 refine⟨λb u q n _ _=>k b u (hb b n) q,λb u q n _ _=>⟨u.slots,k b u (hb b n) q⟩,λb u q n _=>by rw[av (hx b n)];exact n,λb u q _=>?_,λb xs q=>by rw[av (hm b _ q λz=>z)];exact q,λb u xs q=>by rw[av (hm b _ q λz=>z)];exact q,λb ps q=>⟨#[],by rw[av (hm b _ q λz=>z),q];simp⟩⟩;by_cases hbe:b=e;·subst hbe;exact heo
 ·exact⟨u,k b u hbe q⟩
end
def Ml(h:Ru)(H:Hp):List xM:=(TM h.objs.size).filter λa=>(H a).isSome
def vg(h:Ru)(H:Hp):Ru:=PySem.W.hideAll h (Ml h H)
theorem AJ(h:Ru)(H:Hp):(vg h H).objs.size=h.objs.size:=PySem.W.hideAll_size _ _
theorem B8{h:Ru}{H:Hp}{b:xM}{o:Obj}(e:h.get? b=some o)(n:H b=none):(vg h H).get? b=some o:=PySem.W.hideAll_get _ e λhm=>by have q:(H b).isSome=true:=(Tj.mp hm).2;rw[n]at q;simp at q
theorem Fb{h:Ru}{H:Hp}{b:xM}{o:Obj}(e:(vg h H).get? b=some o):h.get? b=some o/\H b=none:=by have e':h.get? b=some o:=PySem.W.of_hideAll (Ml h H) e;refine⟨e',?_⟩;cases q:H b with|none=>rfl|some x=>have hm:b∈Ml h H:=Tj.mpr ⟨UO.mpr (RM e'),by simp[q]⟩;have z:(vg h H).get? b=none:=PySem.W.hideAll_none (Ml h H) hm;rw[z]at e;cases e
def uP(g h:Ru)(L:xM):List (xM×Obj):=(TM h.objs.size).filterMap λa=>if a=L\/(g.get? a).isSome=true then none else(h.get? a).map λo=>(a,o)
theorem rC{g h:Ru}{L:xM}{p:xM×Obj}(hp:p∈uP g h L):p.1≠L/\g.get? p.1=none/\h.get? p.1=some p.2:=by
 obtain⟨b,_,e⟩:=VO.mp hp;split at e;·cases e
 ·rename_i hn;cases q:h.get? b with|none=>rw[q]at e;simp at e|some u=>rw[q]at e;simp only[SE,Us]at e;subst e;refine⟨λz=>hn (.inl z),?_,q⟩;show g.get? b=none;cases r:g.get? b with|none=>rfl|some v=>exact(hn (.inr (by simp[r]))).elim
def aB(g h:Ru)(L d:xM):List (xM×Obj):=(uP g h L).filter λp=>decide (p.1≠d)
theorem Cz{g h:Ru}{L:xM}:News g L h (uP g h L):=λp hp=>let⟨a,b,c⟩:=rC hp;⟨c,a,b⟩
structure Mod (K:Rj) (mg:Str->Option Oq) (base:Ru):Prop where
 kin:K.In base
 glob:base.Ns Se mg
 blt:∃mb,base.Ns builtinsNs mb/\∀x:Str,x≠"__name__"->mb x=Tn x
 nolimit:base.NoLimit
structure Cx where
 prog:Rw
 w:Ro
 K:Rj
 mg:Str->Option Oq
 base:Ru
 A:Rz
 N:List Str
 s₀:Rg
 H₀:Hp
 env:Env
 outer:List Env
 stack:List Env
 ex:List xM
 fn:Str->Bool
 calm:Bool
 pn:List (xM×Obj)xe:Oq->Rg->Prop
def BS(l:List Env):List xM:=l.filterMap (·.frame)
abbrev Cx.fs(X:Cx):List xM:=BS X.outer
def Km(sc:RU)(x:Str):Prop:=sc.names.lookup x=some .local\/sc.names.lookup x=some .cell\/sc.names.lookup x=some .free
def zo(sc:RU)(x:Str):Prop:=sc.names.lookup x=some .local\/sc.names.lookup x=some .cell
def Ms(env:Env)(h:Ru)(m:Str->Option Oq)(x:Str)(u:Oq):Prop:=(env.kindOf x=some .local/\m x=some u)\/((env.kindOf x=some .cell\/env.kindOf x=some .free)/\∃c,env.cells.lookup x=some c/\h.IsCell c (some u))
structure Cx.Ok (X:Cx):Prop where
 mod:Mod X.K X.mg X.base
 kind:X.env.scope.kind=.function
 glob:X.env.globals=Se
 blt:X.env.builtins=builtinsNs
 above:X.s₀.heap.objs.size<=X.env.locals
 inj:∀x y c,X.env.cells.lookup x=some c->X.env.cells.lookup y=some c->x=y
 has:∀x,(X.env.kindOf x=some .cell\/X.env.kindOf x=some .free)->∃c,X.env.cells.lookup x=some c
 cab:∀x c,X.fn x=true->X.env.cells.lookup x=some c->X.s₀.heap.objs.size<=c
 hd:X.calm=true->X.A.handled=none
 frames:X.A.frames=some X.stack
 stk:X.stack=X.outer\/(X.stack=X.env::X.outer/\X.env.frame=some X.env.locals)exf:∀b∈X.ex,b≠X.env.locals/\∀x c,X.env.cells.lookup x=some c->c≠b
 bs:∀b o,X.base.get? b=some o->X.s₀.heap.get? b=some o/\X.H₀ b=none
 bsz:X.base.objs.size<=X.s₀.heap.objs.size
 noex:∀b o,X.base.get? b=some o->b∉X.ex
 exfs:∀b∈X.ex,b∉X.fs
 funs:X.s₀.heap.FunFrames X.base X.outer
 frf:∀b∈X.fs,X.H₀ b=none
structure aI (X:Cx) (pins:List (xM×Obj)) (σ:List (Option V)) (H:Hp) (s:Rg):Prop where
 ok:X.Ok
 os:s.os=X.s₀.os
 bare:AllBare s.gens
 base:Un X.fs X.ex X.H₀ H X.s₀.heap s.heap
 loc:∃m,s.heap.Ns X.env.locals m/\∀(i:Nat) (x:Str) (v:V),X.N[i]?=some x->σ[i]?=some (some v)->Km X.env.scope x->∃u,bW v u/\Ms X.env s.heap m x u
 cell:∀x c,X.env.cells.lookup x=some c->∃v,s.heap.IsCell c v
 free:H X.env.locals=none
 freeC:∀x c,X.env.cells.lookup x=some c->H c=none
 pin:∀p∈X.pn++pins,s.heap.get? p.1=some p.2/\H p.1=none/\p.1≠X.env.locals/\p.1∉X.fs/\∀v,p.2.data≠.cell v
 hok:p_ X.prog X.w H s.heap
 len:σ.length=X.N.length
section
variable{X:Cx}{pins:List (xM×Obj)}{σ:List (Option V)}{H H':Hp}{s:Rg}{h':Ru}
theorem Cx.Ok.nofr(ok:X.Ok){b:xM}{o:Obj}(e:X.base.get? b=some o):b∉X.fs:=λhb=>by have:=(ok.funs.mem hb).1;rw[e]at this;cases this
theorem aI.bs(I:aI X pins σ H s):∀b o,X.base.get? b=some o->s.heap.get? b=some o/\H b=none:=λb o e=>⟨I.base.keep b o (I.ok.bs b o e).1 (I.ok.bs b o e).2 (I.ok.nofr e) (I.ok.noex b o e),I.base.free b o (I.ok.bs b o e).1 (I.ok.bs b o e).2 (I.ok.noex b o e)⟩
theorem aI.bk(I:aI X pins σ H s):∀b o,X.base.get? b=some o->s.heap.get? b=some o:=λb o e=>(I.bs b o e).1
theorem aI.mod(I:aI X pins σ H s):Mod X.K X.mg X.base:=I.ok.mod
theorem aI.kIn(I:aI X pins σ H s):X.K.In s.heap:=I.ok.mod.kin.keeps I.bk
theorem aI.fr(I:aI X pins σ H s):∃m,Fr X.base X.env.locals s.heap m:=let⟨m,hn,_⟩:=I.loc;⟨m,hn,I.bk,Sl I.ok.bsz I.ok.above⟩
theorem aI.lt(I:aI X pins σ H s):X.env.locals<s.heap.objs.size:=let⟨_,hn,_⟩:=I.loc;hn.lt
theorem aI.sz(I:aI X pins σ H s):X.s₀.heap.objs.size<=s.heap.objs.size:=Sl I.ok.above (Ut I.lt)
theorem aI.nofs(I:aI X pins σ H s){a:xM}(h:s.heap.objs.size<=a):a∉X.fs:=λhb=>by obtain⟨_,o,ho,_⟩:=I.ok.funs.mem hb;exact absurd (So (RM ho) (Sl I.sz h)) (Tw _)
theorem aI.cne(I:aI X pins σ H s):∀x c,X.env.cells.lookup x=some c->c≠X.env.locals:=λx c e z=>by obtain⟨v,o,ho,hd⟩:=I.cell x c e;obtain⟨m,⟨o',es,ep,ho',hd',_⟩,_⟩:=I.loc;rw[z,ho']at ho;cases ho;rw[hd']at hd;cases hd
theorem aI.funs(I:aI X pins σ H s):s.heap.FunFrames X.base X.outer:=by
 have all:∀(l:List Env),(∀b∈BS l,b∈X.fs)->X.s₀.heap.FunFrames X.base l->s.heap.FunFrames X.base l:=by intro l;induction l with|nil=>intro _ _;trivial|cons env r ih=>intro hs hl;obtain⟨hk,⟨L,o,hf,hn,ho,hd⟩,hr⟩:=hl;have hL:L∈X.fs:=hs L (by unfold BS;rw[VP,hf];exact TN);obtain⟨sl,e⟩:=I.base.slot L o ho (I.ok.frf L hL) hL λz=>I.ok.exfs L z hL;exact⟨hk,⟨L,_,hf,hn,e,hd⟩,ih (λb hb=>hs b (by unfold BS;rw[VP,hf];exact SS _ hb)) hr⟩
 exact all X.outer (λ_ hb=>hb) I.ok.funs
theorem aI.stack(I:aI X pins σ H s):s.heap.FunFrames X.base X.stack:=by
 rcases I.ok.stk with e|⟨e,hf⟩;·rw[e];exact I.funs
 ·rw[e];obtain⟨m,hn,_⟩:=I.loc;refine .cons (by rw[I.ok.kind];decide) hf hn ?_ I.funs;exact Heap.get?_none_of_le (Sl I.ok.bsz I.ok.above)
theorem aI.stkSub(I:aI X pins σ H s):∀b∈BS X.stack,b∈X.env.locals::X.fs:=λb hb=>by
 rcases I.ok.stk with e|⟨e,hf⟩;·rw[e]at hb;exact SS _ hb
 ·rw[e]at hb;unfold BS at hb;rw[VP,hf]at hb;exact hb
theorem aI.stkFree(I:aI X pins σ H s):∀b∈BS X.stack,H b=none:=λb hb=>by
 rcases Re (I.stkSub b hb) with e|hb;·rw[e];exact I.free
 ·obtain⟨_,o,ho,_⟩:=I.ok.funs.mem hb;exact I.base.free b o ho (I.ok.frf b hb) λz=>I.ok.exfs b z hb
theorem aI.step{g':Array GenState}{t':Nat}{d':Drawn}{ch:List xM}(I:aI X pins σ H s)(hch:∀b∈ch,(b∈X.ex\/X.s₀.heap.objs.size<=b)/\b≠X.env.locals/\(∀x c,X.env.cells.lookup x=some c->c≠b)/\∀p∈X.pn++pins,p.1≠b)(keep:∀b o,b≠X.env.locals->b∉X.fs->b∉ch->s.heap.get? b=some o->H b=none->h'.get? b=some o)(slot:∀b o,b≠X.env.locals->b∈X.fs->b∉ch->s.heap.get? b=some o->H b=none->∃sl,h'.get? b=some {o with slots:=sl})(free:∀b o,b∉ch->s.heap.get? b=some o->H b=none->H' b=none)(there:∀b o,b∉ch->s.heap.get? b=some o->∃o',h'.get? b=some o')(tups:∀b xs,H b=some (.tup xs)->H' b=some (.tup xs))(frzs:∀b o u,H b=some (.frz o u)->H' b=some (.frz o u))(tbls:∀b ps,H b=some (.tbl ps)->∃more,H' b=some (.tbl (ps++more)))(ns:∀m,s.heap.Ns X.env.locals m->h'.Ns X.env.locals m)(hok:p_ X.prog X.w H' h')(hg:AllBare g'):aI X pins σ H' {s with heap:=h',gens:=g',drawn:=d',toks:=t'}:=by
 have neL:∀b o,X.s₀.heap.get? b=some o->b≠X.env.locals:=λb o e=>SJ (So (RM e) I.ok.above);have neC:∀b o,X.s₀.heap.get? b=some o->b∉X.ex->b∉ch:=λb o e hx hb=>by
  rcases(hch b hb).1 with z|z;·exact hx z
  ·exact absurd (So (RM e) z) (Tw _)
 have cellK:∀x c,X.env.cells.lookup x=some c->∀v,s.heap.IsCell c v->h'.IsCell c v:=λx c e v⟨o,ho,hd⟩=>by
  have nch:c∉ch:=λz=>(hch c z).2.2.1 x c e rfl;by_cases hc:c∈X.fs;·obtain⟨sl,q⟩:=slot c o (I.cne x c e) hc nch ho (I.freeC x c e);exact⟨_,q,hd⟩
  ·exact⟨o,keep c o (I.cne x c e) hc nch ho (I.freeC x c e),hd⟩
 refine⟨I.ok,I.os,hg,⟨λb o e n hb hx=>?_,λb o e n hb hx=>?_,λb o e n hx=>?_,λb o e hx=>?_,λb xs e=>tups b xs (I.base.tups b xs e),λb o xs e=>frzs b o xs (I.base.frzs b o xs e),λb ps e=>?_⟩,?_,λx c e=>?_,?_,λx c e=>?_,λp hp=>?_,hok,I.len⟩;·exact keep b o (neL b o e) hb (neC b o e hx) (I.base.keep b o e n hb hx) (I.base.free b o e n hx)
 ·obtain⟨sl,e1⟩:=I.base.slot b o e n hb hx;obtain⟨sl',e2⟩:=slot b _ (neL b o e) hb (neC b o e hx) e1 (I.base.free b o e n hx);exact⟨sl',e2⟩
 ·obtain⟨o',e1⟩:=I.base.there b o e hx;exact free b o' (neC b o e hx) e1 (I.base.free b o e n hx)
 ·obtain⟨o',e1⟩:=I.base.there b o e hx;exact there b o' (neC b o e hx) e1
 ·obtain⟨m1,e1⟩:=I.base.tbls b ps e;obtain⟨m2,e2⟩:=tbls b _ e1;exact⟨m1++m2,by rw[e2,Array.append_assoc]⟩
 ·obtain⟨m,hn,hl⟩:=I.loc;refine⟨m,ns m hn,λi x v e1 e2 e3=>?_⟩;obtain⟨u,r,l⟩:=hl i x v e1 e2 e3;refine⟨u,r,?_⟩;rcases l with l|⟨k,c,e,z⟩;·exact .inl l
  ·exact .inr ⟨k,c,e,cellK x c e _ z⟩
 ·obtain⟨v,z⟩:=I.cell x c e;exact⟨v,cellK x c e v z⟩
 ·obtain⟨m,⟨o,_,_,ho,_⟩,_⟩:=I.loc;exact free _ o (λz=>(hch _ z).2.1 rfl) ho I.free
 ·obtain⟨v,o,ho,hd⟩:=I.cell x c e;exact free c o (λz=>(hch c z).2.2.1 x c e rfl) ho (I.freeC x c e)
 ·obtain⟨e,n,ne,nf,d⟩:=I.pin p hp;have nch:p.1∉ch:=λz=>(hch p.1 z).2.2.2 p hp rfl;exact⟨keep p.1 p.2 ne nf nch e n,free p.1 p.2 nch e n,ne,nf,d⟩
theorem aI.un{t':Nat}(I:aI X pins σ H s)(u:Un X.fs [] H H' s.heap h')(hok:p_ X.prog X.w H' h'):aI X pins σ H' {s with heap:=h',toks:=t'}:=by obtain⟨m,⟨o,es,ep,ho,r⟩,_⟩:=id I.loc;obtain⟨sl,hL⟩:=u.any ho I.free (by simp);exact I.step (g':=s.gens) (d':=s.drawn) (ch:=[]) (λ_ z=>nomatch z) (λb o _ hb _ e n=>u.keep b o e n hb (by simp)) (λb o _ hb _ e n=>u.slot b o e n hb (by simp)) (λb o _ e n=>u.free b o e n (by simp)) (λb o _ e=>u.there b o e (by simp)) u.tups u.frzs u.tbls (λm' hm=>by obtain⟨o',es',ep',ho',r'⟩:=hm;rw[ho]at ho';cases ho';exact⟨_,es',ep',hL,r'⟩) hok I.bare
theorem aI.call{g':Array GenState}{t':Nat}{d':Drawn}{ch:List xM}(I:aI X pins σ H s)(u:Un (BS X.stack) ch H H' s.heap h')(hok:p_ X.prog X.w H' h')(hg:AllBare g')(hch:∀b∈ch,(b∈X.ex\/X.s₀.heap.objs.size<=b)/\b≠X.env.locals/\(∀x c,X.env.cells.lookup x=some c->c≠b)/\∀p∈X.pn++pins,p.1≠b):aI X pins σ H' {s with heap:=h',gens:=g',drawn:=d',toks:=t'}:=by obtain⟨m,⟨o,es,ep,ho,r⟩,_⟩:=id I.loc;obtain⟨sl,hL⟩:=u.any ho I.free λz=>(hch _ z).2.1 rfl;exact I.step (ch:=ch) hch (λb o hL hb hc e n=>u.keep b o e n (λz=>(Re (I.stkSub b z)).elim hL hb) hc) (λb o _ _ hc e n=>u.any e n hc) (λb o hc e n=>u.free b o e n hc) (λb o hc e=>u.there b o e hc) u.tups u.frzs u.tbls (λm' hm=>by obtain⟨o',es',ep',ho',r'⟩:=hm;rw[ho]at ho';cases ho';exact⟨_,es',ep',hL,r'⟩) hok hg
theorem aI.turned{t':Nat}{it:xM}(I:aI X pins σ H s)(k:∀b o,b≠it->s.heap.get? b=some o->h'.get? b=some o)(hn:H it=none)(hL:it≠X.env.locals)(h1:it∈X.ex\/X.s₀.heap.objs.size<=it)(h2:∀x c,X.env.cells.lookup x=some c->c≠it)(h3:∀p∈X.pn++pins,p.1≠it):aI X pins σ H {s with heap:=h',toks:=t'}:=by
 have nit:∀b u,H b=some u->b≠it:=λb u e z=>by rw[z,hn]at e;cases e
 refine I.step (g':=s.gens) (d':=s.drawn) (ch:=[it]) (λb hb=>?_) (λb o _ _ hc e _=>k b o (λz=>hc (by simp[z])) e) (λb o _ _ hc e _=>⟨o.slots,k b o (λz=>hc (by simp[z])) e⟩) (λ_ _ _ _ n=>n) (λb o hc e=>⟨o,k b o (λz=>hc (by simp[z])) e⟩) (λ_ _ e=>e) (λ_ _ _ e=>e) (λb ps e=>⟨#[],by rw[e];simp⟩) (λm hm=>?_) (λb u e=>?_) I.bare
 ·have e:b=it:=by simpa using hb
  subst e;exact⟨h1,hL,h2,h3⟩
 ·obtain⟨o,es,ep,ho,r⟩:=hm;exact⟨o,es,ep,k _ o (RJ hL) ho,r⟩
 ·refine(I.hok b u e).stay (λc v hc q=>k c v ?_ q) (λ_ q=>q) λ_ _ q=>q;rcases hc with z|z;·rw[z];exact nit b u e
  ·exact nit c _ z
theorem aI.tok(I:aI X pins σ H s)(t:Nat):aI X pins σ H {s with toks:=t}:=I.un (h':=s.heap) (t':=t) Un.refl I.hok
theorem aI.kept{t':Nat}(I:aI X pins σ H s)(k:∀b u,s.heap.get? b=some u->h'.get? b=some u):aI X pins σ H {s with heap:=h',toks:=t'}:=I.un (Un.kept k) (I.hok.kept k)
theorem aI.laid{a:xM}{o:HO}{t':Nat}(I:aI X pins σ H s)(k:∀b u,s.heap.get? b=some u->h'.get? b=some u)(hp:s.heap.objs.size<=a)(new:gQ X.prog X.w (bg H a o) h' a o):aI X pins σ (bg H a o) {s with heap:=h',toks:=t'}:=I.un (Un.laid k hp (I.hok.fresh hp)) (I.hok.laid k hp new)
theorem aI.write{x e:xM}{o:HO}{t':Nat}(I:aI X pins σ H s)(mu:L8 (H x))(he:e=x\/H e=some (.own x))(k:∀b u,b≠e->s.heap.get? b=some u->h'.get? b=some u)(heo:∃u,h'.get? e=some u)(new:gQ X.prog X.w (bg H x o) h' x o):aI X pins σ (bg H x o) {s with heap:=h',toks:=t'}:=I.un (Un.write mu he k heo) (I.hok.write mu he k heo new)
theorem aI.pins_of{pins':List (xM×Obj)}(I:aI X pins σ H s)(h:∀p∈pins',s.heap.get? p.1=some p.2/\H p.1=none/\p.1≠X.env.locals/\p.1∉X.fs/\∀v,p.2.data≠.cell v):aI X pins' σ H s:=⟨I.ok,I.os,I.bare,I.base,I.loc,I.cell,I.free,I.freeC,λp hp=>(Q9 hp).elim (λz=>I.pin p (List.mem_append_left _ z)) (h p),I.hok,I.len⟩
theorem xq{N:List Str}(hN:N.Nodup){i j:Nat}{x:Str}(a:N[i]?=some x)(b:N[j]?=some x):i=j:=by obtain⟨h1,e1⟩:=Q8 a;obtain⟨h2,e2⟩:=Q8 b;exact(List.getElem_inj hN).mp (e1.trans e2.symm)
theorem uC{M:Model}{A:Rz}{E:Oq->Rg->Prop}{i:Nat}{x:Str}{v:V}{u:Oq}{Q:Unit->Rg->Prop}(I:aI X pins σ H s)(hN:X.N.Nodup)(hi:X.N[i]?=some x)(hx:zo X.env.scope x)(r:bW v u)(h:∀s',aI X pins (σ.set i (some v)) H s'->(∃a,Ud a s.heap s'.heap/\(a=X.env.locals\/X.env.cells.lookup x=some a))->Q () s')(hf:X.fn x=true\/X.env.scope.names.lookup x=some .local:=by first|exact .inl rfl|exact .inr rfl|assumption):Rr M A (storeName X.env x u) Q E s:=by
 obtain⟨m,hn,hl⟩:=id I.loc;have hcls:(X.env.scope.kind==.class||(X.env.scope.kind==.module&&X.env.locals !=X.env.globals))=false:=by rw[I.ok.kind];rfl
 have hiσ:i<σ.length:=by rw[I.len];exact(Q8 hi).1
 have cne:=I.cne;have tracked:∀{a:xM}{h':Ru},(∃o,s.heap.get? a=some o/\H a=none)->Ud a s.heap h'->p_ X.prog X.w H h':=fun{a h'}ha hs b ob e=>by
  obtain⟨_,_,hfree⟩:=ha;refine(I.hok b ob e).stay (λc w' hc q=>(hs.2 c ?_).trans q) (λ_ q=>q) λ_ _ q=>q;rintro rfl;rcases hc with rfl|hc;·rw[hfree]at e;cases e
  ·rw[hfree]at hc;cases hc
 rcases hx with hk|hk
 ·refine wpAny_storeName_local hk hn (λh' hn' hs=>?_) hcls;obtain⟨oL,_,_,hoL,_⟩:=id hn;refine h _ ⟨I.ok,I.os,I.bare,⟨λb o e n hb hx=>?_,λb o e n hb hx=>?_,I.base.free,λb o e hx=>?_,I.base.tups,I.base.frzs,I.base.tbls⟩,⟨_,hn',λj y v' e1 e2 e3=>?_⟩,λy c e=>?_,I.free,I.freeC,λp hp=>?_,tracked ⟨oL,hoL,I.free⟩ hs,by simpa using I.len⟩ ⟨_,hs,.inl rfl⟩;·exact(hs.2 b (SJ (So (RM e) I.ok.above))).trans (I.base.keep b o e n hb hx)
  ·obtain⟨sl,e1⟩:=I.base.slot b o e n hb hx;exact⟨sl,(hs.2 b (SJ (So (RM e) I.ok.above))).trans e1⟩
  ·obtain⟨o',e1⟩:=I.base.there b o e hx;exact⟨o',(hs.2 b (SJ (So (RM e) I.ok.above))).trans e1⟩
  ·by_cases hj:j=i;·subst hj;rw[hi]at e1;cases e1;rw[Sj hiσ]at e2;cases e2;exact⟨u,r,.inl ⟨hk,by simp⟩⟩
   ·rw[RI (RJ hj)]at e2;obtain⟨u',r',q⟩:=hl j y v' e1 e2 e3;refine⟨u',r',?_⟩;rcases q with⟨k,e⟩|⟨k,c,e,z⟩;·refine .inl ⟨k,?_⟩;have:y≠x:=λe=>hj (xq hN e1 (e▸hi));simp[this,e]
    ·exact .inr ⟨k,c,e,z.sameBut hs (cne y c e)⟩
  ·obtain⟨w',z⟩:=I.cell y c e;exact⟨w',z.sameBut hs (cne y c e)⟩
  ·obtain⟨e,n,ne,nf,d⟩:=I.pin p hp;exact⟨(hs.2 p.1 ne).trans e,n,ne,nf,d⟩
 ·have hfn:X.fn x=true:=by
   rcases hf with z|z;·exact z
   ·rw[z]at hk;cases hk
  obtain⟨c,hc⟩:=I.ok.has x (.inl hk);obtain⟨w',z⟩:=I.cell x c hc;refine wpAny_storeName_cell I.ok.kind hk hc z (λh' hc' hs=>?_);obtain⟨oc,hoc,hocd⟩:=id z;refine h {s with heap:=h'} ⟨I.ok,I.os,I.bare,⟨λb o e n hb hx=>?_,λb o e n hb hx=>?_,I.base.free,λb o e hx=>?_,I.base.tups,I.base.frzs,I.base.tbls⟩,⟨m,hn.sameBut hs (RJ (cne x c hc)),λj y v' e1 e2 e3=>?_⟩,λy c' e=>?_,I.free,I.freeC,λp hp=>?_,tracked ⟨oc,hoc,I.freeC x c hc⟩ hs,by simpa using I.len⟩ ⟨c,hs,.inr hc⟩;·exact(hs.2 b (SJ (So (RM e) (I.ok.cab x c hfn hc)))).trans (I.base.keep b o e n hb hx)
  ·obtain⟨sl,e1⟩:=I.base.slot b o e n hb hx;exact⟨sl,(hs.2 b (SJ (So (RM e) (I.ok.cab x c hfn hc)))).trans e1⟩
  ·obtain⟨o',e1⟩:=I.base.there b o e hx;exact⟨o',(hs.2 b (SJ (So (RM e) (I.ok.cab x c hfn hc)))).trans e1⟩
  ·by_cases hj:j=i;·subst hj;rw[hi]at e1;cases e1;rw[Sj hiσ]at e2;cases e2;exact⟨u,r,.inr ⟨.inl hk,c,hc,hc'⟩⟩
   ·rw[RI (RJ hj)]at e2;obtain⟨u',r',q⟩:=hl j y v' e1 e2 e3;refine⟨u',r',?_⟩;rcases q with q|⟨k,c',e,z'⟩;·exact .inl q
    ·refine .inr ⟨k,c',e,z'.sameBut hs ?_⟩;rintro rfl;exact hj (xq hN e1 (I.ok.inj _ _ _ e hc▸hi))
  ·by_cases hcc:c'=c;·subst hcc;exact⟨_,hc'⟩
   ·obtain⟨w2,z2⟩:=I.cell y c' e;exact⟨w2,z2.sameBut hs hcc⟩
  ·obtain⟨e,n,ne,nf,d⟩:=I.pin p hp;refine⟨(hs.2 p.1 ?_).trans e,n,ne,nf,d⟩;intro q;rw[q,hoc]at e;have q':oc=p.2:=SB e;exact d w' (by rw[<-q'];exact hocd)
theorem oE{M:Model}{A:Rz}{E:Oq->Rg->Prop}{i:Nat}{x:Str}{v:V}{u:Oq}{Q:Unit->Rg->Prop}(I:aI X pins σ H s)(hN:X.N.Nodup)(hi:X.N[i]?=some x)(hx:zo X.env.scope x)(r:bW v u)(h:∀s',aI X pins (σ.set i (some v)) H s'->Q () s')(hf:X.fn x=true\/X.env.scope.names.lookup x=some .local:=by first|exact .inl rfl|exact .inr rfl|assumption):Rr M A (storeName X.env x u) Q E s:=uC I hN hi hx r (λs' I' _=>h s' I') hf
theorem aI.call'{s':Rg}{ch:List xM}(I:aI X pins σ H s)(ho:s'.os=s.os)(u:Un (BS X.stack) ch H H' s.heap s'.heap)(hok:p_ X.prog X.w H' s'.heap)(hg:AllBare s'.gens)(hch:∀b∈ch,(b∈X.ex\/X.s₀.heap.objs.size<=b)/\b≠X.env.locals/\(∀x c,X.env.cells.lookup x=some c->c≠b)/\∀p∈X.pn++pins,p.1≠b):aI X pins σ H' s':=by obtain⟨h',g',d',t',o'⟩:=s';have e:o'=s.os:=ho;subst e;exact I.call (g':=g') (t':=t') (d':=d') u hok hg hch
end
abbrev XK:=Oq->Option xM->Hp->Prop
abbrev St:=List (Option V)
abbrev VK:=V->Hp->Prop
abbrev TE:=St->Hp->VK->Prop
abbrev TT:=St->Hp->(Bool->Hp->Prop)->Prop
abbrev TA:=St->Hp->(List V->Hp->Prop)->Prop
structure qD where
 nx:St->Hp->Prop
 rt:VK
 bk:St->Hp->Prop:=λ_ _=>False
 ct:St->Hp->Prop:=λ_ _=>False
abbrev TS:=qD->St->Hp->Prop
def EP(X:Cx)(pins:List (xM×Obj))(σ:St)(Q:VK)(u:Oq)(s':Rg):Prop:=∃v H',aI X pins σ H' s'/\bW v u/\Q v H'
def TP(X:Cx)(pins:List (xM×Obj))(σ:St)(Q:Bool->Hp->Prop)(b:Bool)(s':Rg):Prop:=∃H',aI X pins σ H' s'/\Q b H'
def AP(X:Cx)(pins:List (xM×Obj))(σ:St)(Q:List V->Hp->Prop)(us:List Oq)(s':Rg):Prop:=∃vs H',aI X pins σ H' s'/\aW vs us/\Q vs H'
def SP(X:Cx)(pins:List (xM×Obj))(D:qD)(f:Flow)(s':Rg):Prop:=match f with|.next=>∃σ' H',aI X pins σ' H' s'/\D.nx σ' H'|.brk=>∃σ' H',aI X pins σ' H' s'/\D.bk σ' H'|.cont=>∃σ' H',aI X pins σ' H' s'/\D.ct σ' H'|.ret u=>∃v σ' H',aI X pins σ' H' s'/\bW v u/\D.rt v H'
def PE(X:Cx)(e:Rl)(t:TE):Prop:=∀(pins:List (xM×Obj)) (s:Rg) (σ:St) (H:Hp) (Q:VK),aI X pins σ H s->t σ H Q->Rr (Ry X.prog X.w) X.A (RC e X.env) (EP X pins σ Q) X.xe s
def PT(X:Cx)(e:Rl)(t:TT):Prop:=∀(pins:List (xM×Obj)) (s:Rg) (σ:St) (H:Hp) (Q:Bool->Hp->Prop),aI X pins σ H s->t σ H Q->Rr (Ry X.prog X.w) X.A (isTrue e X.env (RC e X.env)) (TP X pins σ Q) X.xe s
def PW(X:Cx)(e:Rl)(t:TT):Prop:=∀(whole:Sem Oq) (pins:List (xM×Obj)) (s:Rg) (σ:St) (H:Hp) (Q:Bool->Hp->Prop),aI X pins σ H s->t σ H Q->Rr (Ry X.prog X.w) X.A (isTrue e X.env whole) (TP X pins σ Q) X.xe s
theorem PW.pt{X:Cx}{e:Rl}{t:TT}(h:PW X e t):PT X e t:=h _
def PA(X:Cx)(es:List Rl)(t:TA):Prop:=∀(pos:Pos) (pins:List (xM×Obj)) (s:Rg) (σ:St) (H:Hp) (Q:List V->Hp->Prop),aI X pins σ H s->t σ H Q->Rr (Ry X.prog X.w) X.A (spliced (RP pos (RB es X.env))) (AP X pins σ Q) X.xe s
def PS(X:Cx)(st:Rx)(t:TS):Prop:=∀(pins:List (xM×Obj)) (s:Rg) (σ:St) (H:Hp) (D:qD),aI X pins σ H s->t D σ H->Rr (Ry X.prog X.w) X.A (exec st X.env) (SP X pins D) X.xe s
def ke(X:Cx)(st:List Rx)(t:TS):Prop:=∀(pins:List (xM×Obj)) (s:Rg) (σ:St) (H:Hp) (D:qD),aI X pins σ H s->t D σ H->Rr (Ry X.prog X.w) X.A (execs st X.env) (SP X pins D) X.xe s
theorem cZ{α:Type}{t:Sem α}{Q Q':α->Rg->Prop}{M:Model}{A:Rz}{E:Oq->Rg->Prop}{s:Rg}(h:Rr M A t Q E s)(hQ:∀a s,Q a s->Q' a s):Rr M A t Q' E s:=Ta h hQ λ_ _ x=>x
section
variable{X:Cx}
def mJ(i:Nat):TE:=λσ H Q=>∃v,σ[i]?=some (some v)/\Q v H
def tC(v:V):TE:=λ_ H Q=>Q v H
theorem aN{i:Nat}{x:Str}{pos:Pos}(hN:X.N[i]?=some x)(hv:Km X.env.scope x)(hd:(x==("__debug__":Str))=false:=by decide)(hcd:(x==("__classdict__":Str))=false:=by decide):PE X (.Name x pos) (mJ i):=by
 intro pins s σ H Q I h;obtain⟨v,e,h⟩:=h;obtain⟨m,hn,hl⟩:=I.loc;obtain⟨u,r,l⟩:=hl i x v hN e hv;have fin:EP X pins σ Q u s:=⟨v,H,I,r,h⟩;rcases l with⟨hk,hm⟩|⟨hk,c,hc,hcell⟩;·exact wpAny_Name (wpAny_loadName_local I.ok.kind hk hn hm fin) hd
 ·rcases hk with hk|hk;·exact wpAny_Name (wpAny_loadName_cell I.ok.kind hk hc hcell fin) hd
  ·exact wpAny_Name (wpAny_loadName_free I.ok.kind hk hc hcell fin hcd) hd
theorem Jp{i j pos}:PE X (.Constant (.int i) j pos) (tC (.int i)):=λ_ _ _ H _ I h=>wpAny_Constant_int ⟨.int i,H,I.tok _,⟨_,rfl⟩,h⟩
theorem Lb{b j pos}:PE X (.Constant (.bool b) j pos) (tC (.bl b)):=λ_ _ _ H _ I h=>Constant_bool ⟨.bl b,H,I,rfl,h⟩
theorem Jq{j pos}:PE X (.Constant .none j pos) (tC .non):=λ_ _ _ H _ I h=>Constant_none ⟨.non,H,I,rfl,h⟩
theorem yQ{x j pos}:PE X (.Constant (.str x) j pos) (tC (.str x)):=λ_ _ _ H _ I h=>Calls.Constant_str ⟨.str x,H,I.tok _,⟨_,rfl⟩,h⟩
def Gl(X:Cx)(x:Str):Prop:=X.env.kindOf x=some .globalImplicit
theorem nJ{E:Oq->Rg->Prop}{pins:List (xM×Obj)}{s:Rg}{σ:St}{H:Hp}{x:Str}{u:Oq}{pos:Pos}{Q:Oq->Rg->Prop}(I:aI X pins σ H s)(hg:Gl X x)(hm:X.mg x=some u)(h:Q u s)(hd:(x==("__debug__":Str))=false:=by decide):Rr (Ry X.prog X.w) X.A (RC (.Name x pos) X.env) Q E s:=Calls.Name_function_global I.ok.kind hg (Calls.loadGlobal_global (by rw[I.ok.glob];exact I.mod.glob.keeps I.bk) hm h) hd
theorem rd{E:Oq->Rg->Prop}{pins:List (xM×Obj)}{s:Rg}{σ:St}{H:Hp}{x:Str}{u:Oq}{pos:Pos}{Q:Oq->Rg->Prop}(I:aI X pins σ H s)(hg:Gl X x)(hm:X.mg x=none)(hv:Tn x=some u)(h:Q u s)(hn:x≠"__name__":=by decide)(hd:(x==("__debug__":Str))=false:=by decide):Rr (Ry X.prog X.w) X.A (RC (.Name x pos) X.env) Q E s:=by obtain⟨mb,h1,h2⟩:=I.mod.blt;exact Calls.Name_function_global I.ok.kind hg (Calls.loadGlobal_builtin (by rw[I.ok.glob];exact I.mod.glob.keeps I.bk) hm (by rw[I.ok.blt];exact h1.keeps I.bk) ((h2 x hn).trans hv) h) hd
theorem FC{x:Str}{v:V}{u:Oq}{pos:Pos}(hg:Gl X x)(hm:X.mg x=some u)(r:bW v u)(hd:(x==("__debug__":Str))=false:=by decide):PE X (.Name x pos) (tC v):=λ_ _ _ H _ I h=>nJ I hg hm ⟨v,H,I,r,h⟩ hd
variable{a b:Rl}{ta tb:TE}{pos:Pos}
def PC(X:Cx)(op:CmpOp)(a b:Rl)(t:TE):Prop:=∀(pins:List (xM×Obj)) (s:Rg) (σ:St) (H:Hp) (Q:VK),aI X pins σ H s->t σ H Q->Rr (Ry X.prog X.w) X.A (RC a X.env) (λv s₁=>Rr (Ry X.prog X.w) X.A (RC b X.env) (λu s₂=>Rr (Ry X.prog X.w) X.A (SD op v u) (EP X pins σ Q) X.xe s₂) X.xe s₁) X.xe s
theorem CC(b:Rl){op:CmpOp}(h:op≠.In)(h2:op≠.NotIn):To op b=false:=by
 have e1:(op==CmpOp.In)=false:=by cases op<;>first|rfl|exact absurd rfl h
 have e2:(op==CmpOp.NotIn)=false:=by cases op<;>first|rfl|exact absurd rfl h2
 cases b<;>simp[To,e1,e2]
def tB(t:TE):TT:=λσ H Q=>t σ H λx H1=>∃c,x=.bl c/\Q c H1
theorem Jv{op:CmpOp}{t:TE}(h:PC X op a b t)(h1:To op b=false:=by first|exact CC _ (by decide) (by decide)|rfl):PT X (.Compare a [op] [b] pos) (tB t):=by intro pins s σ H Q I hw;refine wpAny_isTrue_Compare1 (cZ (h pins s σ H _ I hw) λv s1 h1=>cZ h1 λu s2 h2=>cZ h2 λc s3⟨x,H1,I1,r1,q1⟩=>?_) h1;obtain⟨d,rfl,q⟩:=q1;cases r1;exact UP ⟨H1,I1,q⟩
theorem C7{e:Rl}{t:TE}(h:PE X e t)(he:∀whole,isTrue e X.env whole=(do let v<-whole;standAt e.pos;holding [v] (truthy v)):=by intro _;rfl):PT X e (tB t):=by intro pins s σ H Q I hw;refine isTrue_plain (cZ (h pins s σ H _ I hw) λv s1⟨x,H1,I1,r1,q1⟩=>?_) (he _);obtain⟨d,rfl,q⟩:=q1;cases r1;exact UP ⟨H1,I1,q⟩
variable{tA tB':TT}{aB:List Rl}
def LJ(t u:TT):TT:=λσ H Q=>t σ H λc H1=>if c=true then u σ H1 Q else Q false H1
def M9(t u:TT):TT:=λσ H Q=>t σ H λc H1=>if c=true then Q true H1 else u σ H1 Q
def LP(t:TT):TT:=λσ H Q=>t σ H λc H1=>Q (!c) H1
theorem FU(ha:PT X a tA):PW X (.BoolOp .And [a] pos) tA:=by intro wh pins s σ H Q I h;refine isTrue_and (cZ (ha pins s σ H Q I h) λc s1 e=>?_);cases c with|true=>exact isTrue_and_nil e|false=>exact e
theorem C8(ha:PT X a tA):PW X (.BoolOp .Or [a] pos) tA:=by intro wh pins s σ H Q I h;refine isTrue_or (cZ (ha pins s σ H Q I h) λc s1 e=>?_);cases c with|false=>exact isTrue_or_nil e|true=>exact e
theorem Jx(ha:PT X a tA)(hb:PW X (.BoolOp .And (b::aB) pos) tB'):PW X (.BoolOp .And (a::b::aB) pos) (LJ tA tB'):=by intro wh pins s σ H Q I h;refine isTrue_and (cZ (ha pins s σ H _ I h) λc s1⟨H1,I1,q1⟩=>?_);cases c with|true=>exact hb wh pins s1 σ H1 Q I1 q1|false=>exact⟨H1,I1,q1⟩
theorem G_(ha:PT X a tA)(hb:PW X (.BoolOp .Or (b::aB) pos) tB'):PW X (.BoolOp .Or (a::b::aB) pos) (M9 tA tB'):=by intro wh pins s σ H Q I h;refine isTrue_or (cZ (ha pins s σ H _ I h) λc s1⟨H1,I1,q1⟩=>?_);cases c with|true=>exact⟨H1,I1,q1⟩|false=>exact hb wh pins s1 σ H1 Q I1 q1
theorem C6(ha:PT X a tA):PT X (.UnaryOp .Not a pos) (LP tA):=by intro pins s σ H Q I h;exact isTrue_not (ha pins s σ H (λc H1=>Q (!c) H1) I h)
def LK(ta tb:TE):TE:=λσ H Q=>ta σ H λx H1=>∃c,x=.bl c/\if c=true then tb σ H1 Q else Q (.bl false) H1
theorem CW{op}{t:TE}(h:PE X a t):PE X (.BoolOp op [a] pos) t:=λpins s σ H Q I hw=>BoolOp_one (h pins s σ H Q I hw)
theorem CP(ha:PE X a ta)(hb:PE X (.BoolOp .And (b::aB) pos) tb):PE X (.BoolOp .And (a::b::aB) pos) (LK ta tb):=by intro pins s σ H Q I h;refine BoolOp_and (cZ (ha pins s σ H _ I h) λv s1⟨x,H1,I1,r1,q1⟩=>?_);obtain⟨c,rfl,q1⟩:=q1;cases r1;refine UP ?_;cases c with|true=>exact hb pins s1 σ H1 Q I1 q1|false=>exact⟨.bl false,H1,I1,rfl,q1⟩
def Of(t:TT)(ta tb:TE):TE:=λσ H Q=>t σ H λc H1=>if c=true then ta σ H1 Q else tb σ H1 Q
theorem xC{c:Rl}(hc:PT X c tA)(ha:PE X a ta)(hb:PE X b tb):PE X (.IfExp c a b pos) (Of tA ta tb):=by intro pins s σ H Q I h;refine wpAny_IfExp (cZ (hc pins s σ H _ I h) λd s1⟨H1,I1,q1⟩=>?_);cases d with|true=>exact ha pins s1 σ H1 Q I1 q1|false=>exact hb pins s1 σ H1 Q I1 q1
end
def fX(K:Rj)(H:Hp)(a:xM)(xs:List V):Prop:=Rd H a (.lst xs)\/∃(o:Obj) (its:Array Oq) (n:Nat),K.lookup a=some o/\o.cls=.type "list"/\o.dict=none/\o.data=.seq its n/\its.size<=RH/\aW xs its.toList
def ff(K:Rj)(H:Hp)(a:xM)(xs:List V):Prop:=Rd H a (.tup xs)\/∃(o:Obj) (its:Array Oq) (n:Nat),K.lookup a=some o/\o.cls=.type "tuple"/\o.dict=none/\o.data=.seq its n/\its.size<=RH/\aW xs its.toList
def MF:Oq->Option V|.none=>some .non|.bool b=>some (.bl b)|.int i _=>some (.int i)|.str x _=>some (.str x)|.bytes b _=>some (.byt b)|.float b _=>some (.flt b)|.ref a=>some (.ref a)|.type n=>some (.ty n)|_=>none
theorem bW.abs{x:V}{u:Oq}(r:bW x u):MF u=some x:=by cases x with|non=>cases r;rfl|bl _=>cases r;rfl|int _=>obtain⟨t,rfl⟩:=r;rfl|str _=>obtain⟨t,rfl⟩:=r;rfl|byt _=>obtain⟨t,rfl⟩:=r;rfl|flt _=>obtain⟨t,rfl⟩:=r;rfl|ref _=>cases r;rfl|ty _=>cases r;rfl
theorem bW.inj{x y:V}{u:Oq}(r:bW x u)(q:bW y u):x=y:=SB (r.abs.symm.trans q.abs)
theorem aW.inj:∀{xs ys:List V}{us:List Oq},aW xs us->aW ys us->xs=ys|_,_,_,.nil,.nil=>rfl|_,_,_,.cons r t,.cons r' t'=>by rw[r.inj r',aW.inj t t']
section
variable{X:Cx}{pins:List (xM×Obj)}{σ:St}{H:Hp}{s:Rg}{a:xM}{xs ys:List V}
theorem fX.of{K:Rj}(h:H a=some (.lst xs)):fX K H a xs:=.inl (.inl h)
theorem ff.of{K:Rj}(h:H a=some (.tup xs)):ff K H a xs:=.inl (.inl h)
theorem aI.list(I:aI X pins σ H s)(h:fX X.K H a xs):∃its:List Oq,aW xs its/\PlainL s.heap a its.toArray/\xs.length<=RH:=by
 rcases h with h|⟨o,its,n,hk,hc,hd,hs,hz,r⟩;·obtain⟨z,its,n,r,e⟩:=h.ok I.hok;exact⟨its,r,⟨_,n,e,rfl,rfl,rfl⟩,z⟩
 ·refine⟨its.toList,r,⟨o,n,I.kIn a o hk,hc,hd,by simpa using hs⟩,?_⟩;have e:=r.length;simp only[VQ]at e;lia
theorem aI.tuple(I:aI X pins σ H s)(h:ff X.K H a xs):∃its:List Oq,aW xs its/\IsTup s.heap a its.toArray/\xs.length<=RH:=by
 rcases h with h|⟨o,its,n,hk,hc,_,hs,hz,r⟩;·obtain⟨z,its,r,p⟩:=h.ok I.hok;exact⟨its,r,p.tup,z⟩
 ·refine⟨its.toList,r,⟨o,I.kIn a o hk,hc,n,by simpa using hs⟩,?_⟩;have e:=r.length;simp only[VQ]at e;lia
theorem aI.list_inj(I:aI X pins σ H s)(h:fX X.K H a xs)(h':fX X.K H a ys):xs=ys:=by
 obtain⟨its,r,⟨o,n,e,_,_,d⟩,_⟩:=I.list h;obtain⟨its',r',⟨o',n',e',_,_,d'⟩,_⟩:=I.list h';rw[e]at e';cases e';rw[d]at d';injection d' with d1 _;have:its=its':=by simpa using congrArg Array.toList d1
 subst this;exact r.inj r'
theorem aI.tuple_inj(I:aI X pins σ H s)(h:ff X.K H a xs)(h':ff X.K H a ys):xs=ys:=by
 obtain⟨its,r,⟨o,e,_,n,d⟩,_⟩:=I.tuple h;obtain⟨its',r',⟨o',e',_,n',d'⟩,_⟩:=I.tuple h';rw[e]at e';cases e';rw[d]at d';injection d' with d1 _;have:its=its':=by simpa using congrArg Array.toList d1
 subst this;exact r.inj r'
end
abbrev Cx.wish(X:Cx)(E:Oq->Rg->Prop):Cx:={X with xe:=E}
abbrev Cx.nox(X:Cx):Cx:=X.wish λ_ _=>False
theorem Cx.Ok.wish{X:Cx}(ok:X.Ok)(E:Oq->Rg->Prop):(X.wish E).Ok:=⟨ok.mod,ok.kind,ok.glob,ok.blt,ok.above,ok.inj,ok.has,ok.cab,ok.hd,ok.frames,ok.stk,ok.exf,ok.bs,ok.bsz,ok.noex,ok.exfs,ok.funs,ok.frf⟩
theorem Cx.Ok.unwish{X:Cx}{E:Oq->Rg->Prop}(ok:(X.wish E).Ok):X.Ok:=⟨ok.mod,ok.kind,ok.glob,ok.blt,ok.above,ok.inj,ok.has,ok.cab,ok.hd,ok.frames,ok.stk,ok.exf,ok.bs,ok.bsz,ok.noex,ok.exfs,ok.funs,ok.frf⟩
section
variable{X:Cx}{pins:List (xM×Obj)}{σ:St}{H:Hp}{s:Rg}{E:Oq->Rg->Prop}
theorem aI.wish(I:aI X pins σ H s)(E:Oq->Rg->Prop):aI (X.wish E) pins σ H s:=⟨I.ok.wish E,I.os,I.bare,I.base,I.loc,I.cell,I.free,I.freeC,I.pin,I.hok,I.len⟩
theorem aI.unwish(I:aI (X.wish E) pins σ H s):aI X pins σ H s:=⟨I.ok.unwish,I.os,I.bare,I.base,I.loc,I.cell,I.free,I.freeC,I.pin,I.hok,I.len⟩
theorem SP.unwish{D:qD}{f:Flow}{s':Rg}(h:SP (X.wish E) pins D f s'):SP X pins D f s':=by cases f with|next=>obtain⟨σ',H',I,q⟩:=h;exact⟨σ',H',I.unwish,q⟩|brk=>obtain⟨σ',H',I,q⟩:=h;exact⟨σ',H',I.unwish,q⟩|cont=>obtain⟨σ',H',I,q⟩:=h;exact⟨σ',H',I.unwish,q⟩|ret u=>obtain⟨v,σ',H',I,r,q⟩:=h;exact⟨v,σ',H',I.unwish,r,q⟩
theorem ke.nox{st:List Rx}{t:TS}(h:ke X.nox st t):ke X st t:=λpins s σ H D I hw=>Ta (h pins s σ H D (I.wish _) hw) (λ_ _ q=>q.unwish) λ_ _ z=>Tc z
end
section
variable{X:Cx}{st:Rx}{aB:List Rx}{t u:TS}{e:Rl}{te:TE}{pos:Pos}
def LO:TS:=λD σ H=>D.nx σ H
def Nb(t u:TS):TS:=λD σ H=>t {D with nx:=u D} σ H
theorem zO:ke X [] LO:=λ_ _ σ H _ I h=>Vj ⟨σ,H,I,h⟩
theorem nY(h1:PS X st t)(h2:ke X aB u):ke X (st::aB) (Nb t u):=by intro pins s σ H D I h;refine wpAny_execs_cons (cZ (h1 pins s σ H {D with nx:=u D} I h) λf s1 q=>?_);cases f with|next=>obtain⟨σ',H',I',q⟩:=q;exact h2 pins s1 σ' H' D I' q|ret v=>exact q|brk=>exact q|cont=>exact q
theorem vS(h1:PS X st t):ke X [st] t:=by intro pins s σ H D I h;refine wpAny_execs_cons (cZ (h1 pins s σ H D I h) λf s1 q=>?_);cases f with|next=>exact Vj q|ret v=>exact q|brk=>exact q|cont=>exact q
theorem aI.quiet{pins:List (xM×Obj)}{σ:St}{H:Hp}{s:Rg}(I:aI X pins σ H s):interactive X.env=false:=by simp[interactive,I.ok.kind]
def LL(te:TE):TS:=λD σ H=>te σ H λ_ H1=>D.nx σ H1
theorem FQ(he:PE X e te)(hs:Tx e none pos.line X.env=pure false:=by rfl):PS X (.Expr e pos) (LL te):=by intro pins s σ H D I h;exact wpAny_Expr_any (cZ (he pins s σ H _ I h) λv s1⟨x,H1,I1,r1,q1⟩=>⟨σ,H1,I1,q1⟩) I.quiet hs
def Na(te:TE):TS:=λD σ H=>te σ H D.rt
theorem yU(he:PE X e te):PS X (.Return (some e) pos) (Na te):=by intro pins s σ H D I h;exact wpAny_Return_some (cZ (he pins s σ H _ I h) λv s1⟨x,H1,I1,r1,q1⟩=>⟨x,σ,H1,I1,r1,q1⟩)
def M7(c:TT)(t u:TS):TS:=λD σ H=>c σ H λb H1=>if b=true then t D σ H1 else u D σ H1
theorem G9{c:Rl}{a b:List Rx}{tc:TT}(hc:PT X c tc)(ha:ke X a t)(hb:ke X b u):PS X (.If c a b pos) (M7 tc t u):=by intro pins s σ H D I h;refine wpAny_If (cZ (hc pins s σ H _ I h) λd s1⟨H1,I1,q1⟩=>?_);cases d with|true=>exact ha pins s1 σ H1 D I1 q1|false=>exact hb pins s1 σ H1 D I1 q1
end
abbrev TG:=V->St->Hp->(St->Hp->Prop)->Prop
abbrev Ef:=List V->St->Hp->(St->Hp->Prop)->Prop
def PG(X:Cx)(target:Rl)(t:TG):Prop:=∀(pins:List (xM×Obj)) (s:Rg) (σ:St) (H:Hp) (v:V) (u:Oq) (Q:St->Hp->Prop),aI X pins σ H s->bW v u->t v σ H Q->Rr (Ry X.prog X.w) X.A (Td target X.env u) (λ_ s'=>∃σ' H',aI X pins σ' H' s'/\Q σ' H') X.xe s
def Bm(X:Cx)(ts:List Rl)(t:Ef):Prop:=∀(pins:List (xM×Obj)) (s:Rg) (σ:St) (H:Hp) (vs:List V) (us:List Oq) (Q:St->Hp->Prop),aI X pins σ H s->aW vs us->t vs σ H Q->Rr (Ry X.prog X.w) X.A (assignInOrder ((Sa ts X.env).map (·.2)) us) (λ_ s'=>∃σ' H',aI X pins σ' H' s'/\Q σ' H') X.xe s
section
variable{X:Cx}{pos:Pos}
def B0(i:Nat):TG:=λv σ H Q=>Q (σ.set i (some v)) H
theorem lN{i:Nat}{x:Str}(hN:X.N.Nodup)(hi:X.N[i]?=some x)(hx:zo X.env.scope x)(hf:X.fn x=true\/X.env.scope.names.lookup x=some .local:=by first|exact .inl rfl|exact .inr rfl|assumption):PG X (.Name x pos) (B0 i):=by intro pins s σ H v u Q I r h;exact wpAny_assign_Name (oE I hN hi hx r (λs' I'=>⟨_,H,I',h⟩) hf)
def MH:Ef:=λvs σ H Q=>vs=[]/\Q σ H
def Kx(t:TG)(u:Ef):Ef:=λvs σ H Q=>∃v r,vs=v::r/\t v σ H λσ' H'=>u r σ' H' Q
theorem vP:Bm X [] MH:=by intro pins s σ H vs us Q I r h;obtain⟨e,h⟩:=h;subst e;cases r;exact assignInOrder_nil ⟨σ,H,I,h⟩
theorem jv{e:Rl}{es:List Rl}{t:TG}{u:Ef}(h1:PG X e t)(h2:Bm X es u)(hs:(Sa (e::es) X.env).map (·.2)=Td e X.env::(Sa es X.env).map (·.2):=by rfl):Bm X (e::es) (Kx t u):=by intro pins s σ H vs us Q I r h;obtain⟨v,vr,e1,h⟩:=h;subst e1;cases r with|cons r rr=>rw[hs];refine assignInOrder_cons (cZ (h1 pins s σ H _ _ _ I r h) λ_ s1⟨σ1,H1,I1,q1⟩=>?_);exact h2 pins s1 σ1 H1 _ _ Q I1 rr q1
def Ky(K:Rj)(n:Nat)(t:Ef):TG:=λv σ H Q=>∃a xs,v=.ref a/\ff K H a xs/\xs.length=n/\t xs σ H Q
theorem Jr{es:List Rl}{k:Nat}{t:Ef}{n:Nat}(hc:X.calm=true)(h:Bm X es t)(hn:(Sa es X.env).length=n:=by rfl)(hst:(Sa es X.env).findIdx? (·.1)=none:=by rfl):PG X (.Tuple es k pos) (Ky X.K n t):=by intro pins s σ H v u Q I r hw;obtain⟨a,xs,e1,hq,hl,hw⟩:=hw;subst e1;cases r;obtain⟨its,rv,ht,hz⟩:=I.tuple hq;refine assign_Tuple_tuple (I.ok.hd hc) ht (by simp[hn,<-hl,rv.length]) hst λh' hx=>?_;have I1:aI X pins σ H {s with heap:=h'}:=I.kept (t':=s.toks) λb o e=>hx b o (SJ (RM e)) e;exact h pins _ σ H xs _ Q I1 (by simpa using rv) hw
def JW(te:TE)(g:TG):TS:=λD σ H=>te σ H λx H1=>g x σ H1 D.nx
theorem C5{tg e:Rl}{te:TE}{g:TG}(he:PE X e te)(hg:PG X tg g)(hs:UQ [tg] e pos.line X.env=pure false:=by rfl)(hw:UR [tg] e X.env=pure none:=by rfl)(h1:(Sa [tg] X.env).map (·.2)=[Td tg X.env]:=by rfl):PS X (.Assign [tg] e pos) (JW te g):=by intro pins s σ H D I h;refine wpAny_Assign_stores (cZ (he pins s σ H _ I h) λv s1⟨x,H1,I1,r1,q1⟩=>?_) hs hw;rw[h1];exact cZ (hg pins s1 σ H1 x v _ I1 r1 q1) λ_ s2 q=>q
theorem vQ{i:Nat}{x:Str}{e:Rl}{te:TE}{pos':Pos}(hN:X.N.Nodup)(hi:X.N[i]?=some x)(hx:zo X.env.scope x)(he:PE X e te)(hs:Tx e (some (.Name x pos')) pos.line X.env=pure false:=by rfl)(hf:X.fn x=true\/X.env.scope.names.lookup x=some .local:=by first|exact .inl rfl|exact .inr rfl|assumption):PS X (.Assign [.Name x pos'] e pos) (JW te (B0 i)):=by intro pins s σ H D I h;refine wpAny_Assign_Name (cZ (he pins s σ H _ I h) λv s1⟨y,H1,I1,r1,q1⟩=>?_) hs;exact oE I1 hN hi hx r1 (λs2 I2=>⟨_,H1,I2,q1⟩) hf
def M'(i j:Nat)(ta:TA):TS:=λD σ H=>ta σ H λvs H1=>∃v w,vs=[v,w]/\D.nx ((σ.set i (some v)).set j (some w)) H1
theorem Ju{i j:Nat}{x y:Str}{a b:Rl}{ta:TA}{px py pt:Pos}{kt k2 pt2}(hc:X.calm=true)(hN:X.N.Nodup)(hi:X.N[i]?=some x)(hj:X.N[j]?=some y)(hij:i≠j)(hx:X.env.scope.names.lookup x=some .local)(hy:X.env.scope.names.lookup y=some .local)(ha:PA X [a,b] ta)(hw:UR [.Tuple [.Name x px,.Name y py] kt pt] (.Tuple [a,b] k2 pt2) X.env=pure (some [x,y]))(hs:UQ [.Tuple [.Name x px,.Name y py] kt pt] (.Tuple [a,b] k2 pt2) pos.line X.env=pure false:=by rfl):PS X (.Assign [.Tuple [.Name x px,.Name y py] kt pt] (.Tuple [a,b] k2 pt2) pos) (M' i j ta):=by
 intro pins s σ H D I h;rw[exec_Assign_arm];refine Rq (wpAny_standAt ?_);rw[hs];refine Rq (RG ?_);rw[if_neg (by decide)];refine Rq (Tuple_ (cZ (ha _ pins s σ H _ I h) λus s1⟨vs,H1,I1,r1,q1⟩=>?_));obtain⟨v,w,e1,q1⟩:=q1;subst e1;obtain⟨u1,u2,rfl,rv,rw'⟩:∃u1 u2,us=[u1,u2]/\bW v u1/\bW w u2:=by cases r1 with|cons p q=>cases q with|cons p' q'=>cases q';exact⟨_,_,rfl,p,p'⟩
 refine Ue ?_ (by show 2<=RH;decide);have I2:aI X pins σ H1 {s1 with heap:=s1.heap.push {cls:=.type "tuple",data:=.seq [u1,u2].toArray}}:=I1.kept (t':=s1.toks) λb o e=>Sf _ e;rw[hw];refine Rq (RG ?_);show Rr (Ry X.prog X.w) X.A (do rule "assign.swapped-stores";let items<-unpackItems (.ref s1.heap.objs.size) 2 none;assignInOrder [λv=>bindName X.env y v,λv=>bindName X.env x v] items.reverse;pure Flow.next) _ _ _;refine Rq (wpAny_rule (Rq (unpackItems_tuple (items:=#[u1,u2]) (I.ok.hd hc) (IsTup.new s1.heap _) λh' hx'=>?_)));have I3:=I2.kept (h':=h') (t':=s1.toks) λb o e=>hx' b o (SJ (RM e)) e;show Rr _ _ (assignInOrder [λv=>bindName X.env y v,λv=>bindName X.env x v] [u2,u1]>>=λ_=>pure Flow.next) _ _ _;refine Rq (assignInOrder_cons (wpAny_bindName (oE I3 hN hj (.inl hy) rw' (λs2 I4=>?_) (.inr hy))));refine assignInOrder_cons (wpAny_bindName (oE I4 hN hi (.inl hx) rv (λs3 I5=>assignInOrder_nil (RG ?_)) (.inr hx)));rw[List.set_comm _ _ (RJ hij)]at I5;exact⟨_,H1,I5,q1⟩
end
section
variable{X:Cx}{pos:Pos}
def JZ(c:TT)(tb:TS):TS:=λD σ H=>∃W:Nat->St->Hp->Prop,(∃m,W m σ H)/\∀m σ H,W m σ H->c σ H λb H1=>if b=true then∃N:St->Hp->Prop,(∀σ' H',N σ' H'->∃m',m'<m/\W m' σ' H')/\tb {D with nx:=N,ct:=N,bk:=D.nx} σ H1 else D.nx σ H1
theorem xE{c:Rl}{body:List Rx}{tc:TT}{tb:TS}(hp:Uu (Ry X.prog X.w) X.A X.env X.xe)(hc:PT X c tc)(hb:ke X body tb):PS X (.While c body [] pos) (JZ tc tb):=by intro pins s σ H D I h;obtain⟨W,⟨m0,w0⟩,turn⟩:=h;refine wpAny_While (codeAny_whileLoop (λn s'=>∃σ' H',aI X pins σ' H' s'/\W n σ' H') ?_ m0 ⟨σ,H,I,w0⟩);rintro n s1⟨σ1,H1,I1,w1⟩;refine Uv hp (cZ (hc pins s1 σ1 H1 _ I1 (turn n σ1 H1 w1)) λb s2⟨H2,I2,q2⟩=>?_);cases b with
 |true=>obtain⟨N,hN,q2⟩:=q2;rw[if_pos rfl];refine Uv hp (cZ (hb pins s2 σ1 H2 _ I2 q2) λf s3 q3=>?_);cases f with|next=>obtain⟨σ3,H3,I3,n3⟩:=q3;obtain⟨m',hm,w3⟩:=hN σ3 H3 n3;exact⟨m',hm,σ3,H3,I3,w3⟩|cont=>obtain⟨σ3,H3,I3,n3⟩:=q3;obtain⟨m',hm,w3⟩:=hN σ3 H3 n3;exact⟨m',hm,σ3,H3,I3,w3⟩|brk=>exact q3|ret v=>exact q3
 |false=>rw[if_neg Ug];exact Vj ⟨σ1,H2,I2,q2⟩
end
structure It where
 go:Nat->Hp->Prop
 yld:Nat->Hp->V->Hp->Prop
 stop:Nat->Hp->Prop
def ky(X:Cx)(pins:List (xM×Obj))(H:Hp)(b:xM):Prop:=H b=none/\b≠X.env.locals/\b∉X.fs/\(b∈X.ex\/X.s₀.heap.objs.size<=b)/\(∀x c,X.env.cells.lookup x=some c->c≠b)/\∀p∈X.pn++pins,p.1≠b
theorem aI.fpOk{X:Cx}{pins:List (xM×Obj)}{σ:St}{H H':Hp}{s:Rg}{b:xM}(I:aI X pins σ H s)(hb:s.heap.objs.size<=b)(hn:H' b=none):ky X pins H' b:=by
 refine⟨hn,Nat.ne_of_gt (So I.lt hb),I.nofs hb,.inr (Sl I.sz hb),λx c e z=>?_,λp hp z=>?_⟩;·obtain⟨v,q⟩:=I.cell x c e;exact absurd (So q.lt (by rw[z];exact hb)) (Tw _)
 ·exact absurd (So (RM (I.pin p hp).1) (by rw[z];exact hb)) (Tw _)
structure Bu (P:Rw) (w:Ro) (K:Rj) (tg:Rl) (J:It) (fp:List xM) (it:xM) (tn:Nat->Ru->Prop):Prop where
 mem:it∈fp
 obj:∀i h,tn i h->∀b∈fp,∃o,h.get? b=some o/\∀v,o.data≠.cell v
 keep:∀i h h',tn i h->(∀b∈fp,∀o,h.get? b=some o->h'.get? b=some o)->tn i h'
 item:∀(X:Cx),X.prog=P->X.w=w->X.K=K->X.calm=true->∀(i:Nat) (pins:List (xM×Obj)) (s:Rg) (σ:St) (H:Hp) (E:Oq->Rg->Prop),aI X pins σ H s->(∀b∈fp,ky X pins H b)->tn i s.heap->J.go i H->Rr (Ry P w) X.A (pyNext (.ref it)) (λr s1=>∃u,r=some u/\Rr (Ry P w) X.A (Vk tg (.ref it) u) (λ_ s2=>∃x H',aI X pins σ H' s2/\bW x u/\J.yld i H x H'/\tn (i+1) s2.heap/\∀b∈fp,H' b=none) E s1) E s
 done:∀(X:Cx),X.prog=P->X.w=w->X.K=K->X.calm=true->∀(i:Nat) (pins:List (xM×Obj)) (s:Rg) (σ:St) (H:Hp) (E:Oq->Rg->Prop),aI X pins σ H s->(∀b∈fp,ky X pins H b)->tn i s.heap->J.stop i H->Rr (Ry P w) X.A (pyNext (.ref it)) (λr s1=>r=none/\aI X pins σ H s1) E s
 self:∀(A:Rz) (i:Nat) (s:Rg) (Q:Oq->Rg->Prop) (E:Oq->Rg->Prop),tn i s.heap->Q (.ref it) s->Rr (Ry P w) A (pyIter (.ref it)) Q E s
abbrev TI:=St->Hp->(It->Hp->Prop)->Prop
def Nl(X:Cx)(pins:List (xM×Obj))(σ:St)(tg:Rl)(R:It->Hp->Prop)(itv:Oq)(s2:Rg):Prop:=∃(it:xM) (fp:List xM) (tn:Nat->Ru->Prop) (J:It) (H':Hp),itv=.ref it/\aI X pins σ H' s2/\Bu X.prog X.w X.K tg J fp it tn/\tn 0 s2.heap/\(∀b∈fp,ky X pins H' b)/\R J H'
def PI(X:Cx)(tg iter:Rl)(wi:TI):Prop:=∀(pins:List (xM×Obj)) (s:Rg) (σ:St) (H:Hp) (R:It->Hp->Prop),aI X pins σ H s->wi σ H R->Rr (Ry X.prog X.w) X.A (RC iter X.env) (λv s1=>Rr (Ry X.prog X.w) X.A (pyIter v) (Nl X pins σ tg R) X.xe s1) X.xe s
theorem B7{M:Model}{A:Rz}{E:Oq->Rg->Prop}{s:Rg}{tg:Rl}{it:xM}{u:Oq}{o:Obj}{n:String}{vs:Array Oq}{Q:Unit->Rg->Prop}(ho:s.heap.get? it=some o)(hc:o.cls=.type n)(hd:o.data=.fields vs)(hn:["enumerate","zip","dict_itemiterator","dict_reverseitemiterator","odict_iterator","itertools.zip_longest","itertools.pairwise"].contains n=false)(hQ:Q () s):Rr M A (Vk tg (.ref it) u) Q E s:=by unfold Vk;cases tg<;>first|exact RG hQ|(cases u<;>first|exact RG hQ| (refine Rq (wpAny_load ho ?_);rw[hc,hd];show Rr M A (if (["enumerate","zip","dict_itemiterator","dict_reverseitemiterator","odict_iterator","itertools.zip_longest","itertools.pairwise"].contains n&&vs[0]?==some (rawInt _))=true then _ else _) Q E s;rw[if_neg (by intro h;rw[hn,Bool.false_and]at h;cases h)];exact RG hQ))
def Mp(K:Rj)(a:xM):It:=⟨λi H=>∃xs x,fX K H a xs/\xs[i]?=some x,λi H x H'=>H'=H/\∀xs,fX K H a xs->xs[i]?=some x,λi H=>∃xs,fX K H a xs/\xs.length<=i⟩
def Mq(K:Rj)(a:xM):It:=⟨λi H=>∃xs x,ff K H a xs/\xs[i]?=some x,λi H x H'=>H'=H/\∀xs,ff K H a xs->xs[i]?=some x,λi H=>∃xs,ff K H a xs/\xs.length<=i⟩
def L6(lo:Int)(n:Nat):It:=⟨λi _=>i<n,λi H x H'=>H'=H/\x=.int (lo+i),λi _=>n<=i⟩
theorem Bi{P:Rw}{w:Ro}{K:Rj}{tg:Rl}(a it:xM):Bu P w K tg (Mp K a) [it] it (λi h=>h.IsListIter it a i) where
 mem:=by simp
 obj:=λi h st b hb=>by
  have e:b=it:=by simpa using hb
  subst e;obtain⟨o,e,c,d⟩:=st;exact⟨o,e,λv z=>by rw[d]at z;cases z⟩
 keep:=λi h h' st k=>st.at λo e=>k it (by simp) o e;item:=by intro X hP hw hK hc i pins s σ H E I hf st hg;subst hP hw hK;obtain⟨xs,x,hq,hx⟩:=hg;obtain⟨its,rv,p,hz⟩:=I.list hq;obtain⟨u,hu,ru⟩:=rv.get hx;obtain⟨f0,f1,f2,f3,f4,f5⟩:=hf it (by simp);refine wpAny_pyNext_list_item st p.isList (x:=u) (by simpa using hu) λh' st' sb=>?_;have I1:aI X pins σ H {s with heap:=h'}:=I.turned (t':=s.toks) (λb o hb e=>(sb.2 b hb).trans e) f0 f1 f3 f4 f5;obtain⟨o,e,c,d⟩:=id st';exact⟨u,rfl,B7 (s:={s with heap:=h'}) e c d (by decide) ⟨x,H,I1,ru,⟨rfl,λys hy=>by rw[I.list_inj hy hq];exact hx⟩,st',λb hb=>(hf b hb).1⟩⟩
 done:=by intro X hP hw hK hc i pins s σ H E I hf st hg;subst hP hw hK;obtain⟨xs,hq,hx⟩:=hg;obtain⟨its,rv,p,hz⟩:=I.list hq;obtain⟨f0,f1,f2,f3,f4,f5⟩:=hf it (by simp);have hl:=rv.length;exact wpAny_pyNext_list_end (I.ok.hd hc) st p.isList (by simp;lia) λh' eb=>⟨rfl,I.turned (t':=s.toks) (λb o hb e=>eb b o hb e) f0 f1 f3 f4 f5⟩
 self:=λ_ _ _ _ _ st h=>wpAny_pyIter_listiter st h
theorem zc{P:Rw}{w:Ro}{K:Rj}{tg:Rl}(a it:xM):Bu P w K tg (Mq K a) [it] it (λi h=>h.IsTupleIter it a i) where
 mem:=by simp
 obj:=λi h st b hb=>by
  have e:b=it:=by simpa using hb
  subst e;obtain⟨o,e,c,d⟩:=st;exact⟨o,e,λv z=>by rw[d]at z;cases z⟩
 keep:=λi h h' st k=>st.at λo e=>k it (by simp) o e;item:=by intro X hP hw hK hc i pins s σ H E I hf st hg;subst hP hw hK;obtain⟨xs,x,hq,hx⟩:=hg;obtain⟨its,rv,p,hz⟩:=I.tuple hq;obtain⟨u,hu,ru⟩:=rv.get hx;obtain⟨f0,f1,f2,f3,f4,f5⟩:=hf it (by simp);refine wpAny_pyNext_tuple_item st (show s.heap.IsTuple a its.toArray from p) (x:=u) (by simpa using hu) λh' st' sb=>?_;have I1:aI X pins σ H {s with heap:=h'}:=I.turned (t':=s.toks) (λb o hb e=>(sb.2 b hb).trans e) f0 f1 f3 f4 f5;obtain⟨o,e,c,d⟩:=id st';exact⟨u,rfl,B7 (s:={s with heap:=h'}) e c d (by decide) ⟨x,H,I1,ru,⟨rfl,λys hy=>by rw[I.tuple_inj hy hq];exact hx⟩,st',λb hb=>(hf b hb).1⟩⟩
 done:=by intro X hP hw hK hc i pins s σ H E I hf st hg;subst hP hw hK;obtain⟨xs,hq,hx⟩:=hg;obtain⟨its,rv,p,hz⟩:=I.tuple hq;obtain⟨f0,f1,f2,f3,f4,f5⟩:=hf it (by simp);have hl:=rv.length;exact wpAny_pyNext_tuple_end (I.ok.hd hc) st (show s.heap.IsTuple a its.toArray from p) (by simp;lia) λh' eb=>⟨rfl,I.turned (t':=s.toks) (λb o hb e=>eb b o hb e) f0 f1 f3 f4 f5⟩
 self:=λ_ _ _ _ _ st h=>wpAny_pyIter_tupleiter st h
theorem zb{P:Rw}{w:Ro}{K:Rj}{tg:Rl}(it:xM)(lo:Int)(n:Nat):Bu P w K tg (L6 lo n) [it] it (λi h=>IsRangeIter h it (lo+(i:Nat)*1) ((n:Int)-(i:Nat)) 1) where
 mem:=by simp
 obj:=λi h st b hb=>by
  have e:b=it:=by simpa using hb
  subst e;exact⟨_,st,λv z=>by have z':Data.fields _=Data.cell v:=z;cases z'⟩
 keep:=λi h h' st k=>k it (by simp) _ st;item:=by intro X hP hw hK hc i pins s σ H E I hf st hg;subst hP hw hK;obtain⟨f0,f1,f2,f3,f4,f5⟩:=hf it (by simp);have W:=Walks.range (prog:=X.prog) (w:=X.w) (I.ok.hd hc) it lo 1 n;refine W.item i s _ _ hg st λv h' tk hv st' kk=>?_;obtain⟨t,rfl⟩:=hv;have I1:aI X pins σ H {s with heap:=h',toks:=tk}:=I.turned (λb o hb e=>kk b o (by simpa using hb) e) f0 f1 f3 f4 f5;refine⟨_,rfl,B7 (s:={s with heap:=h',toks:=tk}) (n:="range_iterator") st' rfl rfl (by decide) ⟨.int (lo+i),H,I1,⟨t,?_⟩,⟨rfl,rfl⟩,st',λb hb=>(hf b hb).1⟩⟩;rw[Int.mul_one]
 done:=by intro X hP hw hK hc i pins s σ H E I hf st hg;subst hP hw hK;obtain⟨f0,f1,f2,f3,f4,f5⟩:=hf it (by simp);exact wpAny_pyNext_range_end (I.ok.hd hc) st (by have:n<=i:=hg;lia) λh' eb=>⟨rfl,I.turned (t':=s.toks) (λb o hb e=>eb b o hb e) f0 f1 f3 f4 f5⟩
 self:=λ_ _ _ _ _ st h=>wpAny_pyIter_rangeiter st h
section
variable{X:Cx}{tg:Rl}
def G3(K:Rj)(tl:TE):TI:=λσ H R=>tl σ H λx H1=>∃a,x=.ref a/\(∃xs,fX K H1 a xs)/\R (Mp K a) H1
def KC(K:Rj)(tl:TE):TI:=λσ H R=>tl σ H λx H1=>∃a,x=.ref a/\(∃xs,ff K H1 a xs)/\R (Mq K a) H1
theorem FH{l:Rl}{tl:TE}(hl:PE X l tl):PI X tg l (G3 X.K tl):=by
 intro pins s σ H R I h;refine cZ (hl pins s σ H _ I h) λv s1⟨x,H1,I1,r1,q1⟩=>?_;obtain⟨a,e,⟨xs,hq⟩,q⟩:=q1;subst e;cases r1;obtain⟨its,rv,p,hz⟩:=I1.list hq;refine wpAny_pyIter_list p.isList ?_;refine⟨s1.heap.objs.size,[s1.heap.objs.size],_,_,H1,rfl,I1.kept (t':=s1.toks) λb o e=>Sf _ e,Bi a _,⟨_,SA _ rfl,rfl,rfl⟩,λb hb=>?_,q⟩;have e:b=s1.heap.objs.size:=by simpa using hb
 subst e;exact I1.fpOk (RL _) (I1.hok.fresh (RL _))
theorem Js{l:Rl}{tl:TE}(hl:PE X l tl):PI X tg l (KC X.K tl):=by
 intro pins s σ H R I h;refine cZ (hl pins s σ H _ I h) λv s1⟨x,H1,I1,r1,q1⟩=>?_;obtain⟨a,e,⟨xs,hq⟩,q⟩:=q1;subst e;cases r1;obtain⟨its,rv,p,hz⟩:=I1.tuple hq;refine wpAny_pyIter_tuple (show s1.heap.IsTuple a its.toArray from p) ?_;refine⟨s1.heap.objs.size,[s1.heap.objs.size],_,_,H1,rfl,I1.kept (t':=s1.toks) λb o e=>Sf _ e,zc a _,⟨_,SA _ rfl,rfl,rfl⟩,λb hb=>?_,q⟩;have e:b=s1.heap.objs.size:=by simpa using hb
 subst e;exact I1.fpOk (RL _) (I1.hok.fresh (RL _))
theorem Dz{pins:List (xM×Obj)}{σ:St}{H:Hp}{s:Rg}{R:It->Hp->Prop}{E:Oq->Rg->Prop}{lo hi:Int}{t u v:Tok}{tk:Nat}(I:aI X pins σ H s)(h1:-(2^62)<=lo)(h2:lo<2^62)(h3:-(2^62)<=hi)(h4:hi<2^62)(q:R (L6 lo (hi-lo).toNat) H):Rr (Ry X.prog X.w) X.A (pyIter (.ref s.heap.objs.size)) (Nl X pins σ tg R) E {s with heap:=s.heap.push {cls:=.type "range",data:=.fields #[.int lo t,.int hi u,.int 1 v]},toks:=tk}:=by
 refine wpAny_pyIter_range (IsRange.new ..) (small_one h1 h2 h3 h4) ?_;have I1:aI X pins σ H {s with heap:=s.heap.push {cls:=.type "range",data:=.fields #[.int lo t,.int hi u,.int 1 v]},toks:=tk}:=I.kept λb o e=>Sf _ e;refine⟨(s.heap.push {cls:=.type "range",data:=.fields #[.int lo t,.int hi u,.int 1 v]}).objs.size,[(s.heap.push {cls:=.type "range",data:=.fields #[.int lo t,.int hi u,.int 1 v]}).objs.size],_,_,H,rfl,I1.kept (t':=tk) λb o e=>Sf _ e,zb _ lo (hi-lo).toNat,?_,λb hb=>?_,q⟩
 ·have e1:lo+((0:Nat):Int)*1=lo:=by simp
  have e2:(((hi-lo).toNat:Nat):Int)-((0:Nat):Int)=Builtin.Range.rangeSize lo hi 1:=by rw[rangeSize_one];split<;>lia
  show IsRangeIter _ _ (lo+((0:Nat):Int)*1) ((((hi-lo).toNat:Nat):Int)-((0:Nat):Int)) 1;rw[e1,e2];exact SA _ rfl
 ·have e:b=(s.heap.push {cls:=.type "range",data:=.fields #[.int lo t,.int hi u,.int 1 v]}).objs.size:=by simpa using hb
  subst e;exact I1.fpOk (RL _) (I1.hok.fresh (RL _))
def KB(ta:TA):TI:=λσ H R=>ta σ H λvs H1=>∃j:Int,vs=[.int j]/\-(2^62)<=j/\j<2^62/\R (L6 0 j.toNat) H1
theorem AZ{a:Rl}{ta:TA}{p pos:Pos}(hg:Gl X "range")(hm:X.mg "range"=none)(ha:PA X [a] ta)(hs:RB [a] X.env=[(false,RC a X.env)]:=by rfl):PI X tg (.Call (.Name "range" p) [a] [] pos) (KB ta):=by intro pins s σ H R I h;refine Call_ (rd I hg hm boot_range (VR (cZ (ha pos pins s σ H _ I h) λus s1⟨vs,H1,I1,r1,q1⟩=>?_) hs rfl));obtain⟨j,e,q1,q2,q⟩:=q1;subst e;cases r1 with|cons r rr=>cases rr;obtain⟨t,rfl⟩:=r;exact call_range_1 (Dz I1 (by lia) (by lia) q1 q2 (by simpa using q))
def M6(wi:TI)(g:TG)(tb:TS):TS:=λD σ H=>wi σ H λJ H1=>∃W:Nat->Nat->St->Hp->Prop,(∃m,W 0 m σ H1)/\∀i m σ H,W i m σ H->(J.stop i H/\D.nx σ H)\/(J.go i H/\∃N:St->Hp->Prop,(∀σ' H',N σ' H'->∃m',m'<m/\W (i+1) m' σ' H')/\∀x H',J.yld i H x H'->g x σ H' λσ2 H2=>tb {D with nx:=N,ct:=N,bk:=D.nx} σ2 H2)
def rH(fp:List xM)(h:Ru):List (xM×Obj):=fp.filterMap λb=>(h.get? b).map λo=>(b,o)
theorem j4{fp:List xM}{h:Ru}{b:xM}{o:Obj}(hb:b∈fp)(e:h.get? b=some o):(b,o)∈rH fp h:=VO.mpr ⟨b,hb,by rw[e];rfl⟩
theorem AR{fp:List xM}{h:Ru}{p:xM×Obj}(hp:p∈rH fp h):p.1∈fp/\h.get? p.1=some p.2:=by obtain⟨b,hb,e⟩:=VO.mp hp;cases q:h.get? b with|none=>rw[q]at e;cases e|some o=>rw[q]at e;have e':(b,o)=p:=SB e;subst e';exact⟨hb,q⟩
theorem aI.pinned{pins:List (xM×Obj)}{σ:St}{H:Hp}{s:Rg}{fp:List xM}(I:aI X pins σ H s)(hf:∀b∈fp,ky X pins H b)(ho:∀b∈fp,∃o,s.heap.get? b=some o/\∀v,o.data≠.cell v):aI X (pins++rH fp s.heap) σ H s:=I.pins_of λp hp=>(Q9 hp).elim (λz=>I.pin p (TU _ z)) λz=>by obtain⟨hb,e⟩:=AR z;obtain⟨f0,f1,f2,_⟩:=hf p.1 hb;obtain⟨o,e',d⟩:=ho p.1 hb;rw[e]at e';cases e';exact⟨e,f0,f1,f2,d⟩
theorem aI.unpinned{pins pl:List (xM×Obj)}{σ:St}{H:Hp}{s:Rg}(I:aI X (pins++pl) σ H s):aI X pins σ H s:=I.pins_of λp hp=>I.pin p (TU _ (List.mem_append_left _ hp))
theorem yT{iter:Rl}{body:List Rx}{wi:TI}{g:TG}{tb:TS}{pos:Pos}(hp:Uu (Ry X.prog X.w) X.A X.env X.xe)(hc:X.calm=true)(hi:PI X tg iter wi)(hg:PG X tg g)(hb:ke X body tb)(hs:∀x,Uh iter X.env x=pure x:=by intro _;rfl):PS X (.For tg iter body [] pos) (M6 wi g tb):=by
 intro pins s σ H D I h;refine wpAny_For (cZ (hi pins s σ H _ I h) λv s1 h1=>cZ h1 λitv s2 h2=>?_) hs;obtain⟨it,fp,tn,J,H2,e,I2,T,st2,f2,W,⟨m0,w0⟩,turn⟩:=h2;subst e;have stat:∀{H':Hp},(∀b∈fp,H' b=none)->∀b∈fp,ky X pins H' b:=λhn b hb=>⟨hn b hb,(f2 b hb).2⟩;refine codeAny_forLoop_any (λn s'=>∃i σ' H',aI X pins σ' H' s'/\tn i s'.heap/\(∀b∈fp,H' b=none)/\W i n σ' H') ?_ m0 ⟨0,σ,H2,I2,st2,λb hb=>(f2 b hb).1,w0⟩;rintro n s3⟨i,σ3,H3,I3,st3,fr3,w3⟩;rcases turn i n σ3 H3 w3 with⟨stop,qn⟩|⟨go,N,hN,step⟩;·refine Uv hp (cZ (T.done X rfl rfl rfl hc i pins s3 σ3 H3 X.xe I3 (stat fr3) st3 stop) λr s4⟨hr,I4⟩=>?_);subst hr;exact Vj ⟨σ3,H3,I4,qn⟩
 ·refine Uv hp (cZ (T.item X rfl rfl rfl hc i pins s3 σ3 H3 X.xe I3 (stat fr3) st3 go) λr s4⟨u,hr,h4⟩=>?_);subst hr;refine Uv hp (cZ h4 λ_ s5⟨x,H5,I5,r5,y5,st5,fr5⟩=>?_);have I5':=I5.pinned (stat fr5) (T.obj _ _ st5);refine Uv hp (cZ (hg _ s5 σ3 H5 x u _ I5' r5 (step x H5 y5)) λ_ s6⟨σ6,H6,I6,q6⟩=>?_);refine Uv hp (cZ (hb _ s6 σ6 H6 _ I6 q6) λf s7 q7=>?_);have again:∀{σ7:St}{H7:Hp},aI X (pins++rH fp s5.heap) σ7 H7 s7->N σ7 H7->∃m,m<n/\∃i σ' H',aI X pins σ' H' s7/\tn i s7.heap/\(∀b∈fp,H' b=none)/\W i m σ' H':=fun{σ7 H7}I7 n7=>by obtain⟨m',hm,w7⟩:=hN σ7 H7 n7;refine⟨m',hm,i+1,σ7,H7,I7.unpinned,T.keep _ _ _ st5 λb hb o e=>(I7.pin (b,o) (TU _ (TU _ (j4 hb e)))).1,λb hb=>?_,w7⟩;obtain⟨o,e,d⟩:=T.obj _ _ st5 b hb;exact(I7.pin (b,o) (TU _ (TU _ (j4 hb e)))).2.1
  cases f with|next=>obtain⟨σ7,H7,I7,n7⟩:=q7;exact again I7 n7|cont=>obtain⟨σ7,H7,I7,n7⟩:=q7;exact again I7 n7|brk=>obtain⟨σ7,H7,I7,q7⟩:=q7;exact⟨σ7,H7,I7.unpinned,q7⟩|ret v=>obtain⟨x7,σ7,H7,I7,r7,q7⟩:=q7;exact⟨x7,σ7,H7,I7.unpinned,r7,q7⟩
end
abbrev R2:=V->V->Hp->VK->Prop
def iW(X:Cx)(f:Oq->Oq->Sem Oq)(r:R2):Prop:=∀(pins:List (xM×Obj)) (s:Rg) (σ:St) (H:Hp) (x y:V) (v u:Oq) (Q:VK),aI X pins σ H s->bW x v->bW y u->r x y H Q->Rr (Ry X.prog X.w) X.A (f v u) (EP X pins σ Q) X.xe s
def L'(X:Cx)(f:Oq->Sem Oq)(r:V->Hp->VK->Prop):Prop:=∀(pins:List (xM×Obj)) (s:Rg) (σ:St) (H:Hp) (x:V) (v:Oq) (Q:VK),aI X pins σ H s->bW x v->r x H Q->Rr (Ry X.prog X.w) X.A (f v) (EP X pins σ Q) X.xe s
def dN(X:Cx)(f:Oq)(r:List V->Hp->VK->Prop):Prop:=∀(pins:List (xM×Obj)) (s:Rg) (σ:St) (H:Hp) (xs:List V) (us:List Oq) (Q:VK),aI X pins σ H s->aW xs us->r xs H Q->Rr (Ry X.prog X.w) X.A (call f us) (EP X pins σ Q) X.xe s
def Kk(r:R2)(ta tb:TE):TE:=λσ H Q=>ta σ H λx H1=>tb σ H1 λy H2=>r x y H2 Q
def NF(r:V->Hp->VK->Prop)(ta:TE):TE:=λσ H Q=>ta σ H λx H1=>r x H1 Q
def rI(C:Int->Int->Prop)(g:Int->Int->V):R2:=λx y H Q=>∃i j,x=.int i/\y=.int j/\C i j/\Q (g i j) H
def A8(g:Int->Int->V):R2:=λx y H Q=>∃i j,x=.int i/\y=.int j/\Q (g i j) H
def rU(g:Int->V):V->Hp->VK->Prop:=λx H Q=>∃i,x=.int i/\Q (g i) H
section
variable{X:Cx}{a b c:Rl}{ta tb tc:TE}{pos:Pos}
theorem HG(ha:PE X a ta)(hb:PE X b tb){pins:List (xM×Obj)}{s:Rg}{σ:St}{H:Hp}{R:V->V->Hp->Prop}(I:aI X pins σ H s)(h:ta σ H λx H1=>tb σ H1 λy H2=>R x y H2){Q:Oq->Rg->Prop}{f:Oq->Oq->Sem Oq}(hf:∀v u s2 x y H2,aI X pins σ H2 s2->bW x v->bW y u->R x y H2->Rr (Ry X.prog X.w) X.A (f v u) Q X.xe s2):Rr (Ry X.prog X.w) X.A (RC a X.env) (λv s₁=>Rr (Ry X.prog X.w) X.A (RC b X.env) (λu s₂=>Rr (Ry X.prog X.w) X.A (f v u) Q X.xe s₂) X.xe s₁) X.xe s:=by refine cZ (ha pins s σ H _ I h) λv s1⟨x,H1,I1,r1,q1⟩=>?_;refine cZ (hb pins s1 σ H1 _ I1 q1) λu s2⟨y,H2,I2,r2,q2⟩=>?_;exact hf v u s2 x y H2 I2 r1 r2 q2
theorem G8{op:Operator}{r:R2}(ho:iW X (Sx op) r)(ha:PE X a ta)(hb:PE X b tb):PE X (.BinOp a op b pos) (Kk r ta tb):=by intro pins s σ H Q I h;exact wpAny_BinOp (HG ha hb I h λv u s2 x y H2 I2 rx ry q=>ho pins s2 σ H2 x y v u Q I2 rx ry q)
theorem Ld{op:UnaryOp}{r:V->Hp->VK->Prop}(ho:L' X (unaryOp op) r)(ha:PE X a ta):PE X (.UnaryOp op a pos) (NF r ta):=by intro pins s σ H Q I h;exact UnaryOp_ (cZ (ha pins s σ H _ I h) λv s1⟨x,H1,I1,r1,q1⟩=>ho pins s1 σ H1 x v Q I1 r1 q1)
theorem K8{f:Oq->Oq->Sem Oq}{C:Int->Int->Prop}{g:Int->Int->Int}(rule:∀(i j:Int) (t u:Tok) (s:Rg) (Q:Oq->Rg->Prop) (E:Oq->Rg->Prop),C i j->Q (.int (g i j) s.toks) {s with toks:=s.toks+1}->Rr (Ry X.prog X.w) X.A (f (.int i t) (.int j u)) Q E s):iW X f (rI C λi j=>.int (g i j)):=by intro pins s σ H x y v u Q I rx ry h;obtain⟨i,j,rfl,rfl,hc,q⟩:=h;obtain⟨t,rfl⟩:=rx;obtain⟨t',rfl⟩:=ry;exact rule i j t t' s _ _ hc ⟨.int (g i j),H,I.tok _,⟨_,rfl⟩,q⟩
theorem K9{f:Oq->Oq->Sem Oq}{g:Int->Int->Int}(rule:∀(i j:Int) (t u:Tok) (s:Rg) (Q:Oq->Rg->Prop) (E:Oq->Rg->Prop),Q (.int (g i j) s.toks) {s with toks:=s.toks+1}->Rr (Ry X.prog X.w) X.A (f (.int i t) (.int j u)) Q E s):iW X f (A8 λi j=>.int (g i j)):=by intro pins s σ H x y v u Q I rx ry h;obtain⟨i,j,rfl,rfl,q⟩:=h;obtain⟨t,rfl⟩:=rx;obtain⟨t',rfl⟩:=ry;exact rule i j t t' s _ _ ⟨.int (g i j),H,I.tok _,⟨_,rfl⟩,q⟩
theorem Jb{f:Oq->Oq->Sem Oq}{g:Int->Int->Bool}(rule:∀(i j:Int) (t u:Tok) (s:Rg) (Q:Oq->Rg->Prop) (E:Oq->Rg->Prop),Q (.bool (g i j)) s->Rr (Ry X.prog X.w) X.A (f (.int i t) (.int j u)) Q E s):iW X f (A8 λi j=>.bl (g i j)):=by intro pins s σ H x y v u Q I rx ry h;obtain⟨i,j,rfl,rfl,q⟩:=h;obtain⟨t,rfl⟩:=rx;obtain⟨t',rfl⟩:=ry;exact rule i j t t' s _ _ ⟨.bl (g i j),H,I,rfl,q⟩
def Hw(i j:Int):Prop:=0<=j/\j<=1000000/\i.natAbs<2^64
def Eo(i j:Int):Prop:=(-(2^64)<i/\i<2^64)\/(-(2^64)<j/\j<2^64)
theorem Eo.ok{i j:Int}(h:Eo i j):IntMulOk i j:=by
 rcases h with⟨h1,h2⟩|⟨h1,h2⟩;·exact .of_left (intBits_le_64 h1 h2)
 ·exact .of_right (intBits_le_64 h1 h2)
theorem Jc:iW X (Sx .Add) (A8 λi j=>.int (i+j)):=K9 λ_ _ _ _ _ _ _ q=>add_int q
theorem Jn:iW X (Sx .Sub) (A8 λi j=>.int (i-j)):=K9 λ_ _ _ _ _ _ _ q=>sub_int q
theorem Jj:iW X (Sx .Mult) (rI Eo λi j=>.int (i*j)):=K8 λ_ _ _ _ _ _ _ hc q=>mul_int q hc.ok
theorem Fq:iW X (Sx .Mod) (rI (λ_ j=>j≠0) λi j=>.int (i.fmod j)):=K8 λ_ _ _ _ _ _ _ hc q=>mod_int' hc q
theorem Jl:iW X (Sx .Pow) (rI Hw λi j=>.int (i^j.toNat)):=K8 λ_ _ _ _ _ _ _ hc q=>pow_int_small hc.1 hc.2.1 hc.2.2 q
theorem Oh{f:Oq->Sem Oq}{g:Int->Int}(rule:∀(i:Int) (t:Tok) (s:Rg) (Q:Oq->Rg->Prop) (E:Oq->Rg->Prop),Q (.int (g i) s.toks) {s with toks:=s.toks+1}->Rr (Ry X.prog X.w) X.A (f (.int i t)) Q E s):L' X f (rU λi=>.int (g i)):=by intro pins s σ H x v Q I rx h;obtain⟨i,rfl,q⟩:=h;obtain⟨t,rfl⟩:=rx;exact rule i t s _ _ ⟨.int (g i),H,I.tok _,⟨_,rfl⟩,q⟩
theorem J2:L' X (unaryOp .USub) (rU λi=>.int (-i)):=Oh λ_ _ _ _ _ q=>neg_int q
end
section
variable{X:Cx}{a b c:Rl}{ta tb tc:TE}{pos:Pos}
theorem BQ{pins:List (xM×Obj)}{σ:St}{H:Hp}{s:Rg}{Q:VK}{k k':Bool}(I:aI X pins σ H s)(q:Q (.bl k) H)(e:k=k'):EP X pins σ Q (.bool k') s:=by subst e;exact⟨.bl k,H,I,rfl,q⟩
theorem La:iW X (SD .Lt) (A8 λi j=>.bl (decide (i<j))):=Jb λ_ _ _ _ _ _ _ q=>lt_int q
theorem K':iW X (SD .Gt) (A8 λi j=>.bl (decide (j<i))):=Jb λ_ _ _ _ _ _ _ q=>gt_int q
theorem K_:iW X (SD .GtE) (A8 λi j=>.bl (decide (j<=i))):=Jb λ_ _ _ _ _ _ _ q=>ge_int q
theorem Ji:iW X (SD .Is) (λx y H Q=>y=.non/\Q (.bl (decide (x=.non))) H):=by intro pins s σ H x y v u Q I rx ry h;obtain⟨rfl,q⟩:=h;cases ry;refine is_none_gen (BQ I q ?_);cases x<;>first|(cases rx;rfl)|(obtain⟨t,rfl⟩:=rx;rfl)
theorem Fv:iW X (SD .IsNot) (λx y H Q=>y=.non/\Q (.bl (!decide (x=.non))) H):=by intro pins s σ H x y v u Q I rx ry h;obtain⟨rfl,q⟩:=h;cases ry;refine isnot_none_gen (BQ I q ?_);cases x<;>first|(cases rx;rfl)|(obtain⟨t,rfl⟩:=rx;rfl)
theorem iW.or{f:Oq->Oq->Sem Oq}{r r':R2}(h:iW X f r)(h':iW X f r'):iW X f (λx y H Q=>r x y H Q\/r' x y H Q):=by
 intro pins s σ H x y v u Q I rx ry q;rcases q with q|q;·exact h pins s σ H x y v u Q I rx ry q
 ·exact h' pins s σ H x y v u Q I rx ry q
theorem aH(b:Rl){op:CmpOp}(h:op≠.In:=by decide)(h2:op≠.NotIn:=by decide):To op b=false:=by
 have e1:(op==CmpOp.In)=false:=by cases op<;>first|rfl|exact absurd rfl h
 have e2:(op==CmpOp.NotIn)=false:=by cases op<;>first|rfl|exact absurd rfl h2
 cases b<;>simp[To,e1,e2]
theorem FB{op:CmpOp}{r:R2}(ho:iW X (SD op) r)(ha:PE X a ta)(hb:PE X b tb)(hm:To op b=false):PE X (.Compare a [op] [b] pos) (Kk r ta tb):=by intro pins s σ H Q I h;exact wpAny_Compare1 (HG ha hb I h λv u s2 x y H2 I2 rx ry q=>ho pins s2 σ H2 x y v u Q I2 rx ry q) hm
def LR(t:TE):TT:=λσ H Q=>t σ H λx H'=>∃k,x=.bl k/\Q k H'
theorem zP{op:CmpOp}{r:R2}(ho:iW X (SD op) r)(ha:PE X a ta)(hb:PE X b tb)(hm:To op b=false):PT X (.Compare a [op] [b] pos) (LR (Kk r ta tb)):=by intro pins s σ H Q I h;refine wpAny_isTrue_Compare1 (cZ (ha pins s σ H _ I h) λv s1⟨x,H1,I1,r1,q1⟩=>cZ (hb pins s1 σ H1 _ I1 q1) λu s2⟨y,H2,I2,r2,q2⟩=>cZ (ho pins s2 σ H2 x y v u _ I2 r1 r2 q2) λc s3⟨z,H3,I3,r3,k,e,q3⟩=>?_) hm;subst e;cases r3;exact UP ⟨H3,I3,q3⟩
theorem yH:(RH:Nat)<2^63:=by rw[SK];decide
theorem uL{x:V}{us:List Oq}(r:aW [x] us):∃u,us=[u]/\bW x u:=by cases r with|cons r1 r2=>cases r2;exact⟨_,rfl,r1⟩
theorem Ht{x y:V}{us:List Oq}(r:aW [x,y] us):∃u w',us=[u,w']/\bW x u/\bW y w':=by cases r with|cons r1 r2=>cases r2 with|cons r3 r4=>cases r4;exact⟨_,_,rfl,r1,r3⟩
theorem BF:dN X (.builtin "abs") (λxs H Q=>∃i,xs=[.int i]/\Q (.int (if i<0 then-i else i)) H):=by intro pins s σ H xs us Q I r h;obtain⟨i,rfl,q⟩:=h;obtain⟨u,rfl,t,rfl⟩:=uL r;exact call_abs_int λu tk=>⟨.int (if i<0 then-i else i),H,I.tok _,⟨_,rfl⟩,q⟩
theorem Ax(hc:X.calm=true):dN X (.builtin "max") (λxs H Q=>∃i j,xs=[.int i,.int j]/\Q (.int (if j>i then j else i)) H):=by
 intro pins s σ H xs us Q I r h;obtain⟨i,j,rfl,q⟩:=h;obtain⟨u,w',rfl,⟨t,rfl⟩,⟨t',rfl⟩⟩:=Ht r;refine max_two_ints (I.ok.hd hc) λh' tk k=>⟨_,H,I.kept k,?_,q⟩;by_cases hj:j>i;·rw[if_pos hj,if_pos hj];exact⟨_,rfl⟩
 ·rw[if_neg hj,if_neg hj];exact⟨_,rfl⟩
theorem Ay(hc:X.calm=true):dN X (.builtin "min") (λxs H Q=>∃i j,xs=[.int i,.int j]/\Q (.int (if j<i then j else i)) H):=by
 intro pins s σ H xs us Q I r h;obtain⟨i,j,rfl,q⟩:=h;obtain⟨u,w',rfl,⟨t,rfl⟩,⟨t',rfl⟩⟩:=Ht r;refine min_two_ints (I.ok.hd hc) λh' tk k=>⟨_,H,I.kept k,?_,q⟩;by_cases hj:j<i;·rw[if_pos hj,if_pos hj];exact⟨_,rfl⟩
 ·rw[if_neg hj,if_neg hj];exact⟨_,rfl⟩
theorem Aw:dN X (.type "int") (λxs H Q=>(∃i,xs=[.int i]/\Q (.int i) H)\/∃k,xs=[.bl k]/\Q (.int (if k then 1 else 0)) H):=by
 intro pins s σ H xs us Q I r h;rcases h with⟨i,rfl,q⟩|⟨k,rfl,q⟩;·obtain⟨u,rfl,t,rfl⟩:=uL r;exact call_int_int ⟨.int i,H,I,⟨_,rfl⟩,q⟩
 ·obtain⟨u,rfl,r1⟩:=uL r;cases r1;exact call_int_bool ⟨.int (if k then 1 else 0),H,I.tok _,⟨_,rfl⟩,q⟩
end
structure yj (h:Ru) (x dx C:xM) (mA:Str->Option Oq):Prop where
 obj:h.get? x=some (Uk C dx)ns:h.Ns1 dx mA
 ne:dx≠x
theorem AO{h:Ru}{dx:xM}{mA:Str->Option Oq}(n:h.Ns1 dx mA):∃od,h.get? dx=some od/\∀name,Vl name od=some (mA name):=by
 obtain⟨o,es,ep,ho,hd,hk,_,hm⟩:=n;refine⟨o,ho,λname=>?_⟩;have e:=hm name;unfold nsFind findBy at e;rw[<-Array.find?_toList]at e;unfold Vl;rw[hd];dsimp only;split;·rename_i y q;rw[q]at e;exact congrArg some e
 ·rename_i q;rw[q]at e;have a:es.toList.any (·.refKey)=false:=by rw[List.any_eq_false];intro y hy;obtain⟨z,t,hkey⟩:=hk y (Array.mem_toList_iff.mp hy);simp[DictEntry.refKey,hkey]
  have a':¬es.toList.any (·.refKey)=true:=by rw[a];exact Ug
  rw[if_neg a'];exact congrArg some e
theorem yj.look{h:Ru}{x dx C:xM}{mA:Str->Option Oq}(I:yj h x dx C mA):∃od,PySem.W.InstAt h x (Uk C dx) C (some od)/\∀name,Vl name od=some (mA name):=let⟨od,ho,hl⟩:=AO I.ns;⟨od,⟨I.obj,rfl,rfl,ho⟩,hl⟩
section
variable{prog:Rw}{w:Ro}{A:Rz}{E:Oq->Rg->Prop}{s:Rg}{K:Rj}{x dx C f:xM}{mA:Str->Option Oq}{name:Str}{v:Oq}
theorem EJ{expr:Bool}{Q:Oq->Rg->Prop}(X:K.In s.heap)(I:yj s.heap x dx C mA)(hg:Vm K C name=true)(hh:VS K C=true)(ha:Te K (.ref C) name=some none)(hv:mA name=some v)(hv':PySem.W.handedIn v=true)(h:Q v {s with toks:=s.toks+1}):Rr (Ry prog w) A (getAttr (.ref x) name expr) Q E s:=by obtain⟨od,J,hl⟩:=I.look;exact PySem.W.get_value X J (VT hg).1 (PySem.W.findObj_own hh ha rfl (by rw[hl,hv])) hv' h
theorem B6{pl:Sem Bool}{Q:Oq×List Oq->Rg->Prop}(X:K.In s.heap)(I:yj s.heap x dx C mA)(hg:Vm K C name=true)(hf:Te K (.ref C) name=some (some (.ref f)))(ht:PySem.W.isFn K (.ref f)=true)(hv:mA name=none)(h:Q (.ref f,[.ref x]) s):Rr (Ry prog w) A (getMethod (.ref x) name pl) Q E s:=by obtain⟨od,J,hl⟩:=I.look;exact PySem.W.method_fn X J (VT hg).1 (VT hg).2 hf (beq_iff_eq.mp ht) (by show(Vl name od).map (·.isSome)=some false;rw[hl,hv];rfl) h
theorem Gg{ns:List Str}{Q:Unit->Rg->Prop}(X:K.In s.heap)(I:yj s.heap x dx C mA)(hs:Te K (.ref C) "__setattr__"=some (some (.builtin "object.__setattr__")))(hp:PySem.W.plainOver K C=true)(ht:PySem.W.takerIn K C name=some none)(hh:VS K C=true)(hw:PySem.Within mA ns)(hsz:ns.length<=RH)(h:∀h',yj h' x dx C (λy=>if y=name then some v else mA y)->Ud dx s.heap h'->Q () {s with heap:=h',toks:=s.toks+2}):Rr (Ry prog w) A (setAttr (.ref x) name v) Q E s:=by obtain⟨od,J,hl⟩:=I.look;refine PySem.W.set_plain X J hs (PySem.W.osa_open (s:={s with toks:=s.toks+1}) (r:=none) X J hp ht λb=>?_);obtain⟨cd,hc,hd'⟩:=PySem.W.any_some hh;have hx:s.heap.get? x=some ⟨.ref C,some dx,.plain,#[]⟩:=I.obj;refine Rq (RG (Rq (Rq (wpAny_loadPart hx (Rq (PySem.W.Looks.here (s:={s with toks:=s.toks+1}) (PySem.W.looks_clsIn X hc) ?_))))));rw[hd'];refine RG (a:=some dx) (Rq (RG (Rq ?_)));refine wpAny_nsSet1 (s:={s with toks:=s.toks+1}) I.ns λh' hn2 hs2=>?_;obtain⟨oD,esD,epD,hoD,hdD,hcD⟩:=hn2.count (PySem.Within.cons name v hw);refine Rq (wpAny_lookBehind hoD (by rw[hdD];exact pastItsLine_dict (Sl hcD (by rw[Tp];lia))) ?_);exact RG (h _ ⟨(hs2.2 _ (RJ I.ne)).trans I.obj,hn2,I.ne⟩ hs2)
theorem Cr{R:Result->Rg->Prop}{vs:List Oq}{kw:List (Str×Oq)}(X:K.In s.heap)(hm:PySem.W.makesIn K C=true)(hi:Te K (.ref C) "__init__"=some (some (.ref f)))(hf:PySem.W.typeIn K (.ref f)=some (.type "function"))(h:codeAny (Ry prog w) (A.under (.builtin "type.__call__" ⟨.ref C::vs,kw⟩)) (.call (.ref f) ⟨.ref (s.heap.objs.size+1)::vs,kw⟩) (PySem.W.InitBack (s.heap.objs.size+1) R) {s with heap:=(s.heap.push Ui).push (Uk C s.heap.objs.size)}):codeAny (Ry prog w) A (.call (.ref C) ⟨vs,kw⟩) R s:=by obtain⟨hh,g,d,t,os⟩:=s;exact PySem.W.make_core (PySem.W.makes_of X hm) (PySem.W.looks_findIn X hi) (λself=>PySem.W.bind_fn X self hf) (.inl rfl) h
end
def jw(f:Str)(v:V):List (Str×V)->List (Str×V)|[]=>[(f,v)]|(g,x)::r=>if g=f then(g,v)::r else(g,x)::jw f v r
theorem pS(f g:Str)(v:V):∀fs:List (Str×V),(jw f v fs).lookup g=if g=f then some v else fs.lookup g
 |[]=>by
  show Sg g [(f,v)]=_;by_cases h:g=f;·have hb:(g==f)=true:=beq_iff_eq.mpr h;simp only[Sg,hb,if_pos h]
  ·have hb:(g==f)=false:=beq_eq_false_iff_ne.mpr h;simp only[Sg,hb,if_neg h]|(k,x)::r=>by
  have ih:=pS f g v r;rw[show jw f v ((k,x)::r)=(if k=f then(k,v)::r else(k,x)::jw f v r) from rfl];by_cases hk:k=f
  ·rw[if_pos hk];by_cases h:g=k;·have hb:(g==k)=true:=beq_iff_eq.mpr h;simp only[Sg,hb,if_pos (h.trans hk)]
   ·have hb:(g==k)=false:=beq_eq_false_iff_ne.mpr h;simp only[Sg,hb,if_neg (λe:g=f=>h (e.trans hk.symm))]
  ·rw[if_neg hk];by_cases h:g=k;·have hb:(g==k)=true:=beq_iff_eq.mpr h;simp only[Sg,hb,if_neg (λe:g=f=>hk (h.symm.trans e))]
   ·have hb:(g==k)=false:=beq_eq_false_iff_ne.mpr h;simp only[Sg,hb];exact ih
theorem oW(f:Str)(v:V):∀fs:List (Str×V),f∈(jw f v fs).map (·.1)/\∀g,g∈fs.map (·.1)->g∈(jw f v fs).map (·.1)
 |[]=>⟨by simp[jw],λg h=>by simp at h⟩|(k,x)::r=>by
  obtain⟨i1,i2⟩:=oW f v r;rw[show jw f v ((k,x)::r)=(if k=f then(k,v)::r else(k,x)::jw f v r) from rfl];by_cases hk:k=f;·rw[if_pos hk];subst hk;exact⟨by simp,λg h=>by simpa using h⟩
  ·rw[if_neg hk];refine⟨?_,λg h=>?_⟩;·rw[Sb];exact SS _ i1
   ·rw[Sb]at h⊢;rcases Re h with e|e;·exact Su.mpr (.inl e)
    ·exact SS _ (i2 g e)
theorem pR(f:Str)(v:V):∀fs:List (Str×V),(jw f v fs).length<=fs.length+1
 |[]=>by simp[jw]|(k,x)::r=>by
  have ih:=pR f v r;rw[show jw f v ((k,x)::r)=(if k=f then(k,v)::r else(k,x)::jw f v r) from rfl];by_cases hk:k=f;·rw[if_pos hk,Tp,Tp];lia
  ·rw[if_neg hk,Tp,Tp];lia
theorem sR.some_of{v:V}{o:Option Oq}(r:sR (some v) o):∃u,o=some u/\bW v u:=by cases o with|none=>exact(show False from r).elim|some u=>exact⟨u,rfl,r⟩
theorem sR.none_of{o:Option Oq}(r:sR none o):o=none:=by cases o with|none=>rfl|some u=>exact(show False from r).elim
theorem AI{v:V}{u:Oq}(r:bW v u):PySem.W.handedIn u=true:=by cases v with|non=>cases (show u=Value.none from r);rfl|bl b=>cases (show u=Value.bool b from r);rfl|int i=>obtain⟨t,e⟩:=(show∃t,u=Value.int i t from r);cases e;rfl|str x=>obtain⟨t,e⟩:=(show∃t,u=Value.str x t from r);cases e;rfl|byt b=>obtain⟨t,e⟩:=(show∃t,u=Value.bytes b t from r);cases e;rfl|flt b=>obtain⟨t,e⟩:=(show∃t,u=Value.float b t from r);cases e;rfl|ref a=>cases (show u=Value.ref a from r);rfl|ty n=>cases (show u=Value.type n from r);rfl
section
variable{P:Rw}{w:Ro}{H H':Hp}{h h':Ru}{a C dx:xM}{fs fs':List (Str×V)}
theorem vk(hok:p_ P w H h)(e:H a=some (.ins C dx fs)):∃mA,yj h a dx C mA/\(∀f,sR (fs.lookup f) (mA f))/\PySem.Within mA (fs.map (·.1))/\fs.length<=1000/\H dx=some (.own a):=by obtain⟨d,z,ne,ob,mA,n,r,q⟩:=(show gQ P w H h a (.ins C dx fs) from hok a _ e);exact⟨mA,⟨ob,n,ne⟩,r,q,z,d⟩
end
structure sP (K:Rj) (C:xM):Prop where
 pg:Vm K C TV=true
 hd:VS K C=true
 po:PySem.W.plainOver K C=true
 sa:Te K (.ref C) "__setattr__"=some (some (.builtin "object.__setattr__"))
theorem sP.get{K:Rj}{C:xM}(c:sP K C)(f:Str):Vm K C f=true:=c.pg
def bQ(K:Rj)(C:xM)(f:Str):Prop:=Te K (.ref C) f=some none
theorem bQ.taker{K:Rj}{C:xM}{f:Str}(n:bQ K C f):PySem.W.takerIn K C f=some none:=by unfold PySem.W.takerIn;rw[show Te K (.ref C) f=some none from n];rfl
structure Oj (K:Rj) (C:xM) (f:Str) (v:V) (u:Oq):Prop where
 at_:Te K (.ref C) f=some (some u)rel:bW v u
 get:PySem.W.specialIn K u "__get__"=some none
 cp:PySem.W.copiedNames.contains f=false
structure oK (K:Rj) (C:xM) (m:Str) (f:xM):Prop where
 at_:Te K (.ref C) m=some (some (.ref f))fn:PySem.W.isFn K (.ref f)=true
 kp:Ul K (.ref f)=true
section
variable{X:Cx}{pins:List (xM×Obj)}{σ:St}{H:Hp}{s:Rg}{a C dx:xM}{fs:List (Str×V)}{f:Str}{v:V}{A:Rz}{E:Oq->Rg->Prop}
theorem yz{b:Bool}{Q:Oq->Rg->Prop}(I:aI X pins σ H s)(e:H a=some (.ins C dx fs))(c:sP X.K C)(n:bQ X.K C f)(l:fs.lookup f=some v)(h:∀u s',aI X pins σ H s'->bW v u->Q u s'):Rr (Ry X.prog X.w) A (getAttr (.ref a) f b) Q E s:=by obtain⟨mA,O,r,_,_,_⟩:=vk I.hok e;obtain⟨u,hu,ru⟩:=sR.some_of (v:=v) (o:=mA f) (by rw[<-l];exact r f);exact EJ I.kIn O (c.get f) c.hd n hu (AI ru) (h u _ (I.tok _) ru)
theorem qX{m:Str}{g:xM}{pl:Sem Bool}{Q:Oq×List Oq->Rg->Prop}(I:aI X pins σ H s)(e:H a=some (.ins C dx fs))(c:sP X.K C)(k:oK X.K C m g)(l:fs.lookup m=none)(h:Q (.ref g,[.ref a]) s):Rr (Ry X.prog X.w) A (getMethod (.ref a) m pl) Q E s:=by obtain⟨mA,O,r,_,_,_⟩:=vk I.hok e;have hn:mA m=none:=sR.none_of (by rw[<-l];exact r m);exact B6 I.kIn O (c.get m) k.at_ k.fn hn h
theorem yY{y:V}{u:Oq}{Q:Unit->Rg->Prop}(I:aI X pins σ H s)(e:H a=some (.ins C dx fs))(c:sP X.K C)(n:bQ X.K C f)(hl:fs.length<1000)(ry:bW y u)(h:∀s',aI X pins σ (bg H a (.ins C dx (jw f y fs))) s'->Q () s'):Rr (Ry X.prog X.w) A (setAttr (.ref a) f u) Q E s:=by
 obtain⟨mA,O,r,wi,_,ho⟩:=vk I.hok e;have hz:(fs.map (·.1)).length<=RH:=by rw[RQ,SK];lia
 refine Gg I.kIn O c.sa c.po n.taker c.hd wi hz λh' O' sb=>h _ ?_;have hd:∃o,h'.get? dx=some o:=let⟨o,_,_,e',_⟩:=O'.ns;⟨o,e'⟩;refine I.write (x:=a) (e:=dx) (by rw[e];exact UH) (.inr ho) (λb q hb z=>(sb.2 b hb).trans z) hd ?_;refine⟨by rw[av O.ne];exact ho,?_,O.ne,O'.obj,_,O'.ns,λg=>?_,λg hg=>?_⟩;·have:=pR f y fs;lia
 ·show sR ((jw f y fs).lookup g) (if g=f then some u else mA g);rw[pS];by_cases q:g=f;·rw[if_pos q,if_pos q];exact ry
  ·rw[if_neg q,if_neg q];exact r g
 ·by_cases q:g=f;·rw[q];exact(oW f y fs).1
  ·refine(oW f y fs).2 g (wi g λz=>hg ?_);show(if g=f then some u else mA g)=none;rw[if_neg q];exact z
theorem aI.made(I:aI X pins σ H s):aI X pins σ (bg (bg H s.heap.objs.size (.own (s.heap.objs.size+1))) (s.heap.objs.size+1) (.ins C s.heap.objs.size [])) {s with heap:=(s.heap.push Ui).push (Uk C s.heap.objs.size)}:=by
 have e1:(s.heap.push Ui).get? s.heap.objs.size=some Ui:=SA s.heap rfl;have e2:((s.heap.push Ui).push (Uk C s.heap.objs.size)).get? (s.heap.objs.size+1)=some (Uk C s.heap.objs.size):=by have:=SA (s.heap.push Ui) (o:=Uk C s.heap.objs.size) rfl;rwa[Ts]at this
 have e3:(s.heap.push Ui).Ns s.heap.objs.size (λ_=>none):=⟨Ui,#[],_,e1,rfl,(λe he=>absurd he (by simp)),λ_=>rfl⟩;have I1:=I.laid (a:=s.heap.objs.size) (o:=.own (s.heap.objs.size+1)) (h':=s.heap.push Ui) (t':=s.toks) (λb u q=>Sf _ q) (RL _) ⟨_,e1⟩;refine I1.laid (a:=s.heap.objs.size+1) (o:=.ins C s.heap.objs.size []) (t':=s.toks) (λb u q=>Sf _ q) (Nat.le_of_eq (Ts _ _)) ?_;have ne:s.heap.objs.size≠s.heap.objs.size+1:=SJ (Vn _);refine⟨by rw[av ne,au],Tq _,ne,e2,λ_=>none,(Heap.Ns1.of_empty e3).at λo q=>Sf _ q,λ_=>UH,λy hy=>absurd rfl hy⟩
theorem Et{prog:Rw}{w:Ro}{env:Env}{e:Rl}{f:Str}{pos:Pos}{s:Rg}{Q:Oq->Rg->Prop}(hb:SU e f env (RC e env)=RC e env)(h:Rr (Ry prog w) A (RC e env) (λo s₁=>Rr (Ry prog w) A (getAttr o f true) Q E s₁) E s):Rr (Ry prog w) A (RC (.Attribute e f pos) env) Q E s:=Attribute_any_ h (by rw[arm_eval_Attribute,hb])
end
def M5(K:Rj)(ta:TE)(f:Str):TE:=λσ H Q=>ta σ H λx H1=>∃a C dx fs v,x=.ref a/\H1 a=some (.ins C dx fs)/\sP K C/\bQ K C f/\fs.lookup f=some v/\Q v H1
def M1(K:Rj)(ta tv:TE)(f:Str):TS:=λD σ H=>tv σ H λy H1=>ta σ H1 λx H2=>∃a C dx fs,x=.ref a/\H2 a=some (.ins C dx fs)/\sP K C/\bQ K C f/\fs.length<1000/\D.nx σ (bg H2 a (.ins C dx (jw f y fs)))
section
variable{X:Cx}{o e value:Rl}{f:Str}{pos pos' tpos:Pos}{ta tv:TE}
theorem Jo(he:PE X e ta)(hb:SU e f X.env (RC e X.env)=RC e X.env):PE X (.Attribute e f pos) (M5 X.K ta f):=by intro pins s σ H Q I h;refine Et hb (cZ (he pins s σ H _ I h) λu s1⟨x,H1,I1,rx,a,C,dx,fs,v,ex,ea,c,n,l,q⟩=>?_);subst ex;obtain rfl:u=Value.ref a:=rx;exact yz I1 ea c n l λu' s2 I2 ru=>⟨v,H1,I2,ru,q⟩
theorem Jt(ha:PE X o ta)(hv:PE X value tv)(hs:Tx value (some (.Attribute o f pos')) pos.line X.env=pure false):PS X (.Assign [.Attribute o f pos'] value pos) (M1 X.K ta tv f):=by intro pins s σ H D I h;refine plainObj_wpAny_Assign_Attribute (cZ (hv pins s σ H _ I h) λu s1⟨y,H1,I1,ry,q⟩=>cZ (ha pins s1 σ H1 _ I1 q) λov s2⟨x,H2,I2,rx,a,C,dx,fs,ex,ea,c,n,l,q2⟩=>?_) hs;subst ex;obtain rfl:ov=Value.ref a:=rx;exact yY I2 ea c n l ry λs3 I3=>⟨σ,_,I3,q2⟩
end
section
variable{X:Cx}{pins:List (xM×Obj)}{σ:St}{H:Hp}{s:Rg}{A:Rz}{E:Oq->Rg->Prop}{Q:Oq->Rg->Prop}{c:Oq}{b:Bool}
inductive qF (K:Rj) (H:Hp):V->Oq->Prop where|non:qF K H .non (.type "NoneType")|bl (x:Bool):qF K H (.bl x) (.type "bool")|int (i:Int):qF K H (.int i) (.type "int")|str (x:Str):qF K H (.str x) (.type "str")|flt (x:UInt64):qF K H (.flt x) (.type "float")|lst{a:xM}{xs:List V}(e:H a=some (.lst xs)):qF K H (.ref a) (.type "list")|frz{a:xM}{o:Obj}{xs:List V}(e:H a=some (.frz o (.lst xs))):qF K H (.ref a) (.type "list")|tup{a:xM}{xs:List V}(e:H a=some (.tup xs)):qF K H (.ref a) (.type "tuple")|dK{a:xM}{kvs:List (ko×V)}(e:H a=some (.dK kvs)):qF K H (.ref a) (.type "dict")|dT{a:xM}{kvs:List (List ko×V)}(e:H a=some (.dT kvs)):qF K H (.ref a) (.type "dict")|ins{a C dx:xM}{fs:List (Str×V)}(e:H a=some (.ins C dx fs)) (cl:sP K C) (ha:Te K (.ref C) "__class__"=some (some (.builtin "object.__class__")))(hn:PySem.W.specialIn K (.builtin "object.__class__") "__get__"=some (some (.builtin "getset_descriptor.__get__"))) (htk:PySem.W.takesIn K (.builtin "object.__class__")=some true)(hm:PySem.W.mroIn K C (.type "object")=some true):qF K H (.ref a) (.ref C)
end
structure bX (k:Nat) (A:Rz):Prop where
 hd:A.handled=none
 dp:A.depth+3*k+5<recursionLimit
 un:A.units+16*k+200<cLine
 gd:A.guards=some []
theorem bX.mono{j k:Nat}{A:Rz}(r:bX k A)(h:j<=k):bX j A:=⟨r.hd,by have:=r.dp;lia,by have:=r.un;lia,r.gd⟩
theorem bX.deeper{k:Nat}{A:Rz}(r:bX (k+1) A)(env:Env):bX k (A.deeper env):=⟨r.hd,by have:=r.dp;show A.depth+1+3*k+5<_;lia,by have:=r.un;show A.units+3+16*k+200<_;lia,r.gd⟩
theorem yJ{A:Rz}{C:xM}{us:List Oq}{kw:List (Str×Oq)}:(A.under (.builtin "type.__call__" ⟨.ref C::us,kw⟩)).depth=A.depth+1:=by first|rfl|simp[Vo,Code.weight,Code.isCreation,Code.isGuard,Code.isCaller,Code.frames,Code.isFrame,guardIds]
theorem yK{A:Rz}{C:xM}{us:List Oq}{kw:List (Str×Oq)}:(A.under (.builtin "type.__call__" ⟨.ref C::us,kw⟩)).units=A.units+1:=by first|rfl|simp[Vo,Code.cUnits,Code.frames,Code.isFrame]
theorem bX.make{k:Nat}{A:Rz}(r:bX (k+1) A)(C:xM)(us:List Oq)(kw:List (Str×Oq)):bX k (A.under (.builtin "type.__call__" ⟨.ref C::us,kw⟩)):=⟨r.hd,by have:=r.dp;rw[yJ];lia,by have:=r.un;rw[yK];lia,by first|exact r.gd|simpa[Vo,Code.isGuard,guardIds]using r.gd⟩
theorem bX.depth{k:Nat}{A:Rz}(r:bX k A):A.depth<recursionLimit:=by have:=r.dp;lia
theorem bX.units{k:Nat}{A:Rz}(r:bX k A):A.units+64<cLine:=by have:=r.un;lia
def DZ:TA:=λ_ H Q=>Q [] H
def p5(ta:TE)(tr:TA):TA:=λσ H Q=>ta σ H λx H1=>tr σ H1 λxs H2=>Q (x::xs) H2
section
variable{X:Cx}{e:Rl}{es:List Rl}{te:TE}{t:TA}{pos:Pos}
theorem fL:PA X [] DZ:=λ_ _ _ _ H Q I h=>Calls.spliced_nil ⟨[],H,I,.nil,h⟩
theorem nU(ha:PE X e te)(hr:PA X es t)(hs:RB (e::es) X.env=(false,RC e X.env)::RB es X.env:=by rfl):PA X (e::es) (p5 te t):=by intro pos pins s σ H Q I h;rw[hs];show Rr _ _ (spliced ((false,RC e X.env)::RP pos (RB es X.env))) _ _ s;refine Calls.spliced_cons (cZ (ha pins s σ H _ I h) λu s1⟨x,H1,I1,r1,q1⟩=>?_);exact cZ (hr pos pins s1 σ H1 _ I1 q1) λus s2⟨xs,H2,I2,r2,q2⟩=>⟨x::xs,H2,I2,.cons r1 r2,q2⟩
def LS(t:TA):TE:=λσ H Q=>t σ H λxs H1=>xs.length<=RH/\∀p,H1 p=none->Q (.ref p) (bg H1 p (.tup xs))
def LM(t:TA):TE:=λσ H Q=>t σ H λxs H1=>xs.length<=RH/\∀p,H1 p=none->Q (.ref p) (bg H1 p (.lst xs))
theorem CZ{x1}(h:PA X es t):PE X (.Tuple es x1 pos) (LS t):=by intro pins s σ H Q I hq;refine wpAny_Tuple_spliced (cZ (h pos pins s σ H _ I hq) λus s1⟨xs,H1,I1,r,z,q⟩=>⟨by rw[<-r.length];exact z,?_⟩);have hf:H1 s1.heap.objs.size=none:=I1.hok.fresh (RL _);refine⟨.ref s1.heap.objs.size,bg H1 s1.heap.objs.size (.tup xs),I1.laid (t':=s1.toks) (λb u e=>Sf _ e) (RL _) ?_,rfl,q _ hf⟩;exact⟨z,us,r,⟨_,SA _ rfl,rfl,_,rfl,rfl⟩⟩
theorem vN(h:PA X es t):PE X (.List es pos) (LM t):=by intro pins s σ H Q I hq;refine wpAny_List_spliced (cZ (h pos pins s σ H _ I hq) λus s1⟨xs,H1,I1,r,z,q⟩=>⟨by rw[<-r.length];exact z,?_⟩);have hf:H1 s1.heap.objs.size=none:=I1.hok.fresh (RL _);refine⟨.ref s1.heap.objs.size,bg H1 s1.heap.objs.size (.lst xs),I1.laid (t':=s1.toks) (λb u e=>Sf _ e) (RL _) ?_,rfl,q _ hf⟩;exact⟨z,us,0,r,SA _ rfl⟩
end
abbrev Sp:=List V->Hp->VK->XK->Prop
abbrev wA:=List Env->Hp->Rg->XK->Oq->Rg->Prop
structure yh (P:Rw) (w:Ro) (K:Rj) (mg:Str->Option Oq) (base:Ru) (A:Rz) (outer:List Env) (s:Rg) (H:Hp):Prop where
 frames:A.frames=some outer
 mod:Mod K mg base
 bs:∀b o,base.get? b=some o->s.heap.get? b=some o/\H b=none
 bsz:base.objs.size<=s.heap.objs.size
 funs:s.heap.FunFrames base outer
 frf:∀b∈BS outer,H b=none
 hok:p_ P w H s.heap
 bare:AllBare s.gens
def CE(outer:List Env)(P:Rw)(w:Ro)(H:Hp)(s:Rg)(Q:VK)(u:Oq)(s':Rg):Prop:=∃v H',s'.os=s.os/\AllBare s'.gens/\Un (BS outer) [] H H' s.heap s'.heap/\p_ P w H' s'.heap/\bW v u/\Q v H'
def CR(CX:wA)(outer:List Env)(P:Rw)(w:Ro)(H:Hp)(s:Rg)(Q:VK)(E:XK)(r:Result)(s':Rg):Prop:=match r with|.ok (.ret u)=>CE outer P w H s Q u s'|.ok _=>False|.error e=>CX outer H s E e s'
structure aG (P:Rw) (w:Ro) (K:Rj) (mg:Str->Option Oq) (base:Ru) (CX:wA) (k:Nat) (f:xM) (fd:RD) (ps:List Str) (sp:Sp):Prop where
 len:∀vs H Q E,sp vs H Q E->vs.length=ps.length
 run:∀(A:Rz) (outer:List Env) (s:Rg) (H:Hp) (args:Args) (us:List Oq) (vs:List V) (Q:VK) (E:XK),bX k A->yh P w K mg base A outer s H->BindsTo s fd args (ps.zip us)->aW vs us->sp vs H Q E->codeAny (Ry P w) A (.call (.ref f) args) (CR CX outer P w H s Q E) s
theorem aG.mono{P:Rw}{w:Ro}{K:Rj}{mg:Str->Option Oq}{base:Ru}{CX:wA}{j k:Nat}{f:xM}{fd:RD}{ps:List Str}{sp:Sp}(F:aG P w K mg base CX j f fd ps sp)(h:j<=k):aG P w K mg base CX k f fd ps sp:=⟨F.len,λA outer s H args us vs Q E hr=>F.run A outer s H args us vs Q E (hr.mono h)⟩
theorem aG.imp{P:Rw}{w:Ro}{K:Rj}{mg:Str->Option Oq}{base:Ru}{CX:wA}{k:Nat}{f:xM}{fd:RD}{ps:List Str}{sp sp':Sp}(F:aG P w K mg base CX k f fd ps sp)(h:∀vs H Q E,sp' vs H Q E->sp vs H Q E):aG P w K mg base CX k f fd ps sp':=⟨λvs H Q E q=>F.len vs H Q E (h _ _ _ _ q),λA outer s H args us vs Q E hr he hb hv hs=>F.run A outer s H args us vs Q E hr he hb hv (h _ _ _ _ hs)⟩
theorem yh.make{P:Rw}{w:Ro}{K:Rj}{mg:Str->Option Oq}{base:Ru}{A:Rz}{outer:List Env}{s:Rg}{H:Hp}(e:yh P w K mg base A outer s H)(C:xM)(us:List Oq)(kw:List (Str×Oq)):yh P w K mg base (A.under (.builtin "type.__call__" ⟨.ref C::us,kw⟩)) outer s H:=⟨by first|exact e.frames|(simpa[Vo,Code.envs,Code.isFrame,pushEnvs]using e.frames),e.mod,e.bs,e.bsz,e.funs,e.frf,e.hok,e.bare⟩
section
variable{X:Cx}{pins:List (xM×Obj)}{σ:St}{H:Hp}{s s':Rg}
theorem aI.env0(I:aI X pins σ H s):yh X.prog X.w X.K X.mg X.base X.A X.stack s H:=⟨I.ok.frames,I.ok.mod,I.bs,Sl I.ok.bsz I.sz,I.stack,I.stkFree,I.hok,I.bare⟩
theorem aI.after{Q:VK}{u:Oq}(I:aI X pins σ H s)(h:CE X.stack X.prog X.w H s Q u s'):EP X pins σ Q u s':=by obtain⟨v,H',os,bare,un,hok,r,q⟩:=h;obtain⟨hh,g,d,t,os'⟩:=s';obtain rfl:os'=s.os:=os;exact⟨v,H',I.call (h':=hh) (g':=g) (d':=d) (t':=t) (ch:=[]) un hok bare (λb z=>absurd z (by simp)),r,q⟩
end
def sx(sp:Sp)(dvs:List V)(E:XK)(t:TA):TE:=λσ H Q=>t σ H λvs H1=>sp (vs++dvs) H1 Q E
def DY(C:xM)(m:Str)(sp:Sp)(dvs:List V)(E:XK)(ta:TE)(t:TA):TE:=λσ H Q=>ta σ H λx H1=>∃a dx fs,x=.ref a/\H1 a=some (.ins C dx fs)/\fs.lookup m=none/\t σ H1 λvs H2=>sp (x::(vs++dvs)) H2 Q E
def LN(C:xM)(sp:Sp)(dvs:List V)(E:XK)(t:TA):TE:=λσ H Q=>t σ H λvs H1=>∀x dx,H1 x=none->H1 dx=none->dx≠x->sp (.ref x::(vs++dvs)) (bg (bg H1 dx (.own x)) x (.ins C dx [])) (λv H2=>v=.non/\Q (.ref x) H2) E
def ez(K:Rj)(fd:RD)(ps:List Str)(ds:List Oq):Prop:=∀(s:Rg) (us:List Oq),K.In s.heap->(us++ds).length=ps.length->BindsTo s fd ⟨us,[]⟩ (ps.zip (us++ds))
theorem ez.all{K:Rj}{fd:RD}{ps:List Str}(h:∀us:List Oq,us.length=ps.length->bindArgs fd ⟨us,[]⟩=pure (ps.zip us)):ez K fd ps []:=λs us _ hl=>by rw[SQ]at hl⊢;exact .of_eq (h us hl)
def ml(CX:wA)(X:Cx)(E:XK):Prop:=∀(pins:List (xM×Obj)) (σ:St) (H:Hp) (s:Rg) (e:Oq) (s':Rg),aI X pins σ H s->CX X.stack H s E e s'->X.xe e s'
section
variable{X:Cx}{CX:wA}{k:Nat}{f C:xM}{fd:RD}{ps:List Str}{sp:Sp}{dvs:List V}{ds:List Oq}{E:XK}{x m:Str}{p pos apos:Pos}{e o:Rl}{es:List Rl}{ta:TE}{t:TA}
theorem vY{pins:List (xM×Obj)}{σ:St}{H:Hp}{s:Rg}{Q:VK}{us:List Oq}{vs:List V}(F:aG X.prog X.w X.K X.mg X.base CX k f fd ps sp)(hr:bX k X.A)(hb:ez X.K fd ps ds)(hd:aW dvs ds)(hx:ml CX X E)(I:aI X pins σ H s)(r:aW vs us)(h:sp (vs++dvs) H Q E):Rr (Ry X.prog X.w) X.A (call (.ref f) us) (EP X pins σ Q) X.xe s:=by
 have r2:aW (vs++dvs) (us++ds):=r.append hd;have hl:(us++ds).length=ps.length:=by rw[<-r2.length];exact F.len _ _ _ _ h
 refine wpAny_call (codeAny_mono (F.run X.A X.stack s H ⟨us,[]⟩ (us++ds) (vs++dvs) Q E hr I.env0 (hb s us I.kIn hl) r2 h) λr s' hq=>?_);cases r with|error e=>exact hx pins σ H s e s' I hq|ok fl=>cases fl with|ret u=>exact I.after hq|next=>exact Tc hq|brk=>exact Tc hq|cont=>exact Tc hq
theorem Fz(F:aG X.prog X.w X.K X.mg X.base CX k f fd ps sp)(hr:bX k X.A)(hg:Gl X x)(hm:X.mg x=some (.ref f))(hk:Ul X.K (.ref f)=true)(hb:ez X.K fd ps ds)(hd:aW dvs ds)(hx:ml CX X E)(ha:PA X (e::es) t)(hdb:(x==("__debug__":Str))=false:=by decide)(he:RB (e::es) X.env=(false,RC e X.env)::RB es X.env:=by rfl)(hpl:(RP pos (RB es X.env)).any (·.1)=false:=by rfl):PE X (.Call (.Name x p) (e::es) [] pos) (sx sp dvs E t):=by intro pins s σ H Q I h;refine US (nJ I hg hm ?_ hdb);refine Vp (h₀:=X.base) I.ok.mod.kin hk (cZ (ha pos pins s σ H _ I h) λus s1⟨vs,H1,I1,r,q⟩=>⟨I1.kIn,?_⟩) he hpl;exact vY F hr hb hd hx I1 r q
theorem FF{pl:Sem Bool}(he:PE X o ta)(c:sP X.K C)(hm:oK X.K C m f)(F:aG X.prog X.w X.K X.mg X.base CX k f fd ps sp)(hr:bX k X.A)(hb:ez X.K fd ps ds)(hd:aW dvs ds)(hx:ml CX X E)(ha:PA X (e::es) t)(hst:RB (e::es) X.env=(false,RC e X.env)::RB es X.env:=by rfl)(hpl:(RP pos (RB es X.env)).any (·.1)=false:=by rfl)(ht:RC (.Call (.Attribute o m apos) (e::es) [] pos) X.env=(do
 let ov<-RC o X.env
 standAt apos.atName let (f,first)<-holding [ov] (getMethod ov m pl)callWith pos f first (RP pos (RB (e::es) X.env)) (Tz pos (TB [] X.env))):=by rfl):PE X (.Call (.Attribute o m apos) (e::es) [] pos) (DY C m sp dvs E ta t):=by intro pins s σ H Q I h;refine PySem.W.methodCall_KW (pl:=pl) (cZ (he pins s σ H _ I h) λu s1⟨x,H1,I1,rx,a,dx,fs,ex,ea,l,q⟩=>?_) ht;subst ex;obtain rfl:u=Value.ref a:=rx;refine qX I1 ea c hm l ?_;refine Vp (first:=[.ref a]) (h₀:=X.base) I.ok.mod.kin hm.kp (cZ (ha pos pins s1 σ H1 _ I1 q) λus s2⟨vs,H2,I2,r,q2⟩=>⟨I2.kIn,?_⟩) hst hpl;exact vY (us:=.ref a::us) (vs:=.ref a::vs) F hr hb hd hx I2 (.cons rfl r) q2
theorem CV{pl:Sem Bool}(he:PE X o ta)(c:sP X.K C)(hm:oK X.K C m f)(F:aG X.prog X.w X.K X.mg X.base CX k f fd ps sp)(hr:bX k X.A)(hb:ez X.K fd ps ds)(hd:aW dvs ds)(hx:ml CX X E)(ht:RC (.Call (.Attribute o m apos) [] [] pos) X.env=(do
 let ov<-RC o X.env
 standAt apos.atName let (f,first)<-holding [ov] (getMethod ov m pl)callWith pos f first (RP pos (RB [] X.env)) (Tz pos (TB [] X.env))):=by rfl):PE X (.Call (.Attribute o m apos) [] [] pos) (DY C m sp dvs E ta DZ):=by intro pins s σ H Q I h;refine PySem.W.methodCall_KW (pl:=pl) (cZ (he pins s σ H _ I h) λu s1⟨x,H1,I1,rx,a,dx,fs,ex,ea,l,q⟩=>?_) ht;subst ex;obtain rfl:u=Value.ref a:=rx;refine qX I1 ea c hm l ?_;exact PySem.W.callWith_K0 (first:=[.ref a]) I1.kIn hm.kp (vY (us:=[.ref a]) (vs:=[.ref a]) F hr hb hd hx I1 (.cons rfl .nil) q)
structure Mk (K:Rj) (C f:xM):Prop where
 makes:PySem.W.makesIn K C=true
 init:Te K (.ref C) "__init__"=some (some (.ref f))fn:PySem.W.isFn K (.ref f)=true
 kp:Ul K (.ref C)=true
theorem DE{pins:List (xM×Obj)}{σ:St}{H:Hp}{s:Rg}{Q:VK}{us:List Oq}{vs:List V}(M:Mk X.K C f)(F:aG X.prog X.w X.K X.mg X.base CX k f fd ps sp)(hr:bX (k+1) X.A)(hb:ez X.K fd ps ds)(hd:aW dvs ds)(hx:ml CX X E)(I:aI X pins σ H s)(r:aW vs us)(h:∀x dx,H x=none->H dx=none->dx≠x->sp (.ref x::(vs++dvs)) (bg (bg H dx (.own x)) x (.ins C dx [])) (λv H2=>v=.non/\Q (.ref x) H2) E):Rr (Ry X.prog X.w) X.A (call (.ref C) us) (EP X pins σ Q) X.xe s:=by
 have hq:=h (s.heap.objs.size+1) s.heap.objs.size (I.hok.fresh (Nat.le_succ _)) (I.hok.fresh (RL _)) (SJ (Vn _));have I2:=aI.made (C:=C) I;have r2:aW (V.ref (s.heap.objs.size+1)::(vs++dvs)) (Value.ref (s.heap.objs.size+1)::(us++ds)):=.cons rfl (r.append hd);have hl:(Value.ref (s.heap.objs.size+1)::us++ds).length=ps.length:=by have e:=r2.length;rw[F.len _ _ _ _ hq]at e;exact e.symm
 refine wpAny_call (Cr (f:=f) I.kIn M.makes M.init (beq_iff_eq.mp M.fn) (codeAny_mono (F.run _ X.stack _ _ ⟨Value.ref (s.heap.objs.size+1)::us,[]⟩ (Value.ref (s.heap.objs.size+1)::(us++ds)) _ _ E (hr.make C us []) (I2.env0.make C us []) (hb _ (Value.ref (s.heap.objs.size+1)::us) I2.kIn hl) r2 hq) λr s' hq'=>?_));cases r with|error e=>exact hx pins σ _ _ e s' I2 hq'|ok fl=>cases fl with|ret u=>obtain⟨v,H',I3,rv,ev,q3⟩:=I2.after hq';subst ev;exact⟨rv,⟨V.ref (s.heap.objs.size+1),H',I3,rfl,q3⟩⟩|next=>exact Tc hq'|brk=>exact Tc hq'|cont=>exact Tc hq'
theorem FD(M:Mk X.K C f)(F:aG X.prog X.w X.K X.mg X.base CX k f fd ps sp)(hr:bX (k+1) X.A)(hg:Gl X x)(hm:X.mg x=some (.ref C))(hb:ez X.K fd ps ds)(hd:aW dvs ds)(hx:ml CX X E)(ha:PA X (e::es) t)(hdb:(x==("__debug__":Str))=false:=by decide)(he:RB (e::es) X.env=(false,RC e X.env)::RB es X.env:=by rfl)(hpl:(RP pos (RB es X.env)).any (·.1)=false:=by rfl):PE X (.Call (.Name x p) (e::es) [] pos) (LN C sp dvs E t):=by intro pins s σ H Q I h;refine US (nJ I hg hm ?_ hdb);refine Vp (h₀:=X.base) I.ok.mod.kin M.kp (cZ (ha pos pins s σ H _ I h) λus s1⟨vs,H1,I1,r,q⟩=>⟨I1.kIn,?_⟩) he hpl;exact DE M F hr hb hd hx I1 r q
end
section
variable{X:Cx}{CX:wA}{k:Nat}{f C:xM}{fd:RD}{ps ks:List Str}{sp:Sp}{E:XK}{x m:Str}{p pos apos kpos:Pos}{e o:Rl}{es:List Rl}{kws:List SL}{te ta:TE}{t tk:TA}{nm:Option Str}
structure Mr (K:Rj) (fd:RD) (ps ks:List Str) (g:List Oq->List Oq->List Oq) (gV:List V->List V->List V):Prop where to:∀(s:Rg) (us ws:List Oq),K.In s.heap->(g us ws).length=ps.length->BindsTo s fd ⟨us,ks.zip ws⟩ (ps.zip (g us ws))rel:∀{vs:List V}{us:List Oq}{zs:List V}{ws:List Oq},aW vs us->aW zs ws->aW (gV vs zs) (g us ws)
variable{g:List Oq->List Oq->List Oq}{gV:List V->List V->List V}
end
structure ay (N P:List Str) (sc:RU):Prop where
 kind:sc.kind=.function
 co:sc.isCoroutine=false
 gen:sc.isGenerator=false
 nd:N.Nodup
 pre:N.take P.length=P
 par:∀x∈P,sc.names.lookup x=some .local\/sc.names.lookup x=some .cell
 nofree:∀y∈sc.names,y.2≠.free
theorem tS{Tf:Str->Option SM}{x:Str}:∀{binds:List (Str×Oq)}{m:Str->Option Oq},(∀v,(x,v)∉binds)->bindL Tf binds m x=m x
 |[],_,_=>rfl|(n,v)::r,m,h=>by
  unfold bindL;rw[tS λw hw=>h w (SS _ hw)];split
  ·have:x≠n:=by rintro rfl;exact h v TN
   simp[this]
  ·rfl
theorem tQ{Tf:Str->Option SM}{x:Str}:∀{binds:List (Str×Oq)}{m:Str->Option Oq},(∀v,(x,v)∉binds)->bindC Tf binds m x=m x
 |[],_,_=>rfl|(n,v)::r,m,h=>by
  unfold bindC;rw[tQ λw hw=>h w (SS _ hw)];split;·rfl
  ·have:x≠n:=by rintro rfl;exact h v TN
   simp[this]
theorem tR{Tf:Str->Option SM}{x:Str}{v:Oq}:∀{P:List Str}{vs:List Oq}{i:Nat}{m:Str->Option Oq},P.Nodup->P[i]?=some x->vs[i]?=some v->Tf x=some .local->bindL Tf (P.zip vs) m x=some v|[],_,_,_,_,h,_,_=>by simp at h|_::_,[],_,_,_,_,h,_=>by simp at h|p::P,w::vs,0,m,nd,h1,h2,hk=>by simp at h1 h2;subst h1;subst h2;show bindL Tf ((p,w)::P.zip vs) m p=_;unfold bindL;rw[tS λv hv=>(Um.mp nd).1 (List.of_mem_zip hv).1,if_pos hk];simp|p::P,w::vs,i+1,m,nd,h1,h2,hk=>by show bindL Tf ((p,w)::P.zip vs) m x=_;unfold bindL;exact tR (i:=i) (Um.mp nd).2 (by simpa using h1) (by simpa using h2) hk
theorem tP{Tf:Str->Option SM}{x:Str}{v:Oq}:∀{P:List Str}{vs:List Oq}{i:Nat}{m:Str->Option Oq},P.Nodup->P[i]?=some x->vs[i]?=some v->Tf x≠some .local->bindC Tf (P.zip vs) m x=some v|[],_,_,_,_,h,_,_=>by simp at h|_::_,[],_,_,_,_,h,_=>by simp at h|p::P,w::vs,0,m,nd,h1,h2,hk=>by simp at h1 h2;subst h1;subst h2;show bindC Tf ((p,w)::P.zip vs) m p=_;unfold bindC;rw[tQ λv hv=>(Um.mp nd).1 (List.of_mem_zip hv).1,if_neg hk];simp|p::P,w::vs,i+1,m,nd,h1,h2,hk=>by show bindC Tf ((p,w)::P.zip vs) m x=_;unfold bindC;exact tP (i:=i) (Um.mp nd).2 (by simpa using h1) (by simpa using h2) hk
def i5(N:List Str)(vs:List V):St:=vs.map some++RF (N.length-vs.length) none
def wR(CX:wA)(P:Rw)(w:Ro)(K:Rj)(mg:Str->Option Oq)(base:Ru)(N:List Str)(qual:Str)(scope:RU)(f:xM)(cd:Oq)(A:Rz)(outer:List Env)(s:Rg)(H:Hp)(E:XK):Cx where prog:=P;w:=w;K:=K;mg:=mg;base:=base;A:=A.deeper (envOfC qual scope s.heap.objs.size f cd);N:=N;s₀:=s;H₀:=H;env:=envOfC qual scope s.heap.objs.size f cd;outer:=outer;stack:=envOfC qual scope s.heap.objs.size f cd::outer;ex:=[];calm:=true;fn:=λ_=>true;pn:=[];xe:=λe s'=>Rr (Ry P w) (A.deeper (envOfC qual scope s.heap.objs.size f cd)) (leaving (envOfC qual scope s.heap.objs.size f cd) e) (λ_ s''=>CX outer H s E e s'') (λe' s''=>CX outer H s E e' s'') s'
theorem wL{sc:RU}{n:Nat}{x:Str}(h:sc.names.lookup x=some .cell):∃c,(Si n sc.names []).lookup x=some c:=by have q:=PySem.W.cellsFrom_some sc.names n [] (.inl h);exact UT.mp q
theorem AK{CX:wA}{P:Rw}{w:Ro}{K:Rj}{mg:Str->Option Oq}{base:Ru}{N ps:List Str}{qual:Str}{scope:RU}{f:xM}{cd:Oq}{A:Rz}{outer:List Env}{s s1:Rg}{H:Hp}{E:XK}{us:List Oq}{vs:List V}(S:ay N ps scope)(hd:A.handled=none)(e0:yh P w K mg base A outer s H)(hl:vs.length=ps.length)(r:aW vs us)(x:InCallC s s.heap.objs.size (bindL (envOfC qual scope s.heap.objs.size f cd).kindOf (ps.zip us) λ_=>none) (Si (s.heap.objs.size+1) scope.names []) (bindC (envOfC qual scope s.heap.objs.size f cd).kindOf (ps.zip us) λ_=>none) s1):aI (wR CX P w K mg base N qual scope f cd A outer s H E) [] (i5 N vs) H s1:=by
 have hpl:ps.length<=N.length:=by have:=congrArg List.length S.pre;rw[List.length_take]at this;lia
 obtain⟨h1,tk,rfl,hk⟩:=x.done;have noA:∀b:xM,b∉(wR CX P w K mg base N qual scope f cd A outer s H E).ex:=λb z=>absurd (show b∈([]:List xM) from z) (by simp);refine⟨⟨e0.mod,S.kind,rfl,rfl,RL _,λy z c h1 h2=>?_,λy hy=>?_,λy c _ h=>?_,λ_=>hd,Around.frames_deeper e0.frames,.inr ⟨rfl,rfl⟩,λb z=>absurd z (noA b),e0.bs,e0.bsz,λb _ _=>noA b,λb z=>absurd z (noA b),e0.funs,e0.frf⟩,rfl,e0.bare,Un.kept hk,⟨_,x.toInCall.ns,λi y v h1 h2 h3=>?_⟩,λy c h=>⟨_,x.cell y c h⟩,e0.hok.fresh (RL _),λy c h=>?_,λp hp=>absurd (show p∈([]:List (xM×Obj)) from hp) (by simp),e0.hok.kept hk,?_⟩;·exact name_of_addr x.apart (UU h1) (UU h2)
 ·have hy:scope.names.lookup y=some .cell\/scope.names.lookup y=some .free:=hy;rcases hy with hy|hy;·exact wL hy
  ·exact absurd rfl (S.nofree _ (UU hy))
 ·exact Ut (x.above y c (UU h))
 ·have hi:i<vs.length:=by
   unfold i5 at h2;by_cases hi:i<vs.length;·exact hi
   ·rw[List.getElem?_append_right (by simpa using hi)]at h2;rw[VU]at h2;split at h2<;>cases h2
  have ha:vs[i]?=some v:=by unfold i5 at h2;rw[TC (by simpa using hi),RY]at h2;cases e:vs[i]? with|none=>rw[e]at h2;cases h2|some a=>rw[e]at h2;cases h2;rfl
  obtain⟨u,hu,rv⟩:=r.get ha;have hp:ps[i]?=some y:=by rw[<-S.pre,List.getElem?_take_of_lt (by lia)];exact h1
  have ndP:ps.Nodup:=by rw[<-S.pre];exact S.nd.sublist (List.take_sublist _ _)
  refine⟨u,rv,?_⟩;rcases S.par y (Rf hp) with k|k;·exact .inl ⟨k,tR ndP hp hu k⟩
  ·obtain⟨c,e⟩:=wL (n:=s.heap.objs.size+1) k;refine .inr ⟨.inl k,c,e,?_⟩;have q:=x.cell y c e;rw[tP ndP hp hu (by show scope.names.lookup y≠_;rw[k];decide)]at q;exact q
 ·exact e0.hok.fresh (Ut (x.above y c (UU h)))
 ·unfold i5;show _=N.length;rw[UI,RQ,VV];lia
theorem Kv{CX:wA}{P:Rw}{w:Ro}{K:Rj}{mg:Str->Option Oq}{base:Ru}{k:Nat}{f:xM}{name qual:Str}{params:Arguments}{body:List Rx}{scope:RU}{dV kV doc pm cdv ct oc:Oq}{an od:Option xM}{osl:Array (Option Oq)}{N ps:List Str}{sp:Sp}(lk:K.lookup f=some ⟨oc,od,.func (SZ name qual params body scope dV kV doc pm an cdv ct),osl⟩)(hcd:UV K cdv qual=true)(S:ay N ps scope)(len:∀vs H Q E,sp vs H Q E->vs.length=ps.length)(hbody:∀(A:Rz) (outer:List Env) (s:Rg) (H:Hp) (vs:List V) (Q:VK) (E:XK),bX k (A.deeper (envOfC qual scope s.heap.objs.size f cdv))->sp vs H Q E->∃t,ke (wR CX P w K mg base N qual scope f cdv A outer s H E) body t/\t {nx:=λ_ H'=>Q .non H',rt:=Q} (i5 N vs) H):aG P w K mg base CX (k+1) f (SZ name qual params body scope dV kV doc pm an cdv ct) ps sp:=by
 refine⟨len,λA outer s H args us vs Q E hr e0 hb r hsp=>?_⟩;have hl:=len _ _ _ _ hsp;have KX:K.In s.heap:=e0.mod.kin.keeps λb o e=>(e0.bs b o e).1;have lim:s.heap.NoLimit:=e0.mod.nolimit.keeps λb o e=>(e0.bs b o e).1;have hkind:∀y∈ps.zip us,scope.names.lookup y.1=some .local\/(scope.names.lookup y.1=some .cell/\((Si (s.heap.objs.size+1) scope.names []).lookup y.1).isSome=true):=λ⟨n,v⟩hy=>by
  rcases S.par n (List.of_mem_zip hy).1 with q|q;·exact .inl q
  ·exact .inr ⟨q,PySem.W.cellsFrom_some _ _ _ (.inl q)⟩
 refine codeAny_call_function hr.depth (KX _ _ lk) rfl S.co S.gen rfl (PySem.W.codeRec_of KX hcd) (hb _ _ _ _ ?_);refine wpAny_newFunctionEnv_cells S.kind hkind λenv he s1 x=>?_;subst he;refine⟨lim.keeps x.toInCall.keep,codeAny_func ?_⟩;obtain⟨t,ht,hq⟩:=hbody A outer s H vs Q E (hr.deeper _) hsp;have I:aI (wR CX P w K mg base N qual scope f cdv A outer s H E) [] (i5 N vs) H s1:=AK S hr.hd e0 hl r x;refine Ta (ht [] s1 (i5 N vs) H _ I hq) (λfl s' hs=>?_) λe s' hs=>hs;have fin:∀{σ':St}{H':Hp}{v:V}{u:Oq},aI (wR CX P w K mg base N qual scope f cdv A outer s H E) [] σ' H' s'->bW v u->Q v H'->CE outer P w H s Q u s':=fun{σ' H' v u}J rv q=>⟨v,H',J.os,J.bare,J.base,J.hok,rv,q⟩;cases fl with|ret u=>obtain⟨v,σ',H',J,rv,q⟩:=hs;exact fin J rv q|next=>obtain⟨σ',H',J,q⟩:=hs;exact fin (v:=V.non) (u:=Value.none) J rfl q|brk=>obtain⟨_,_,_,q⟩:=hs;exact Tc q|cont=>obtain⟨_,_,_,q⟩:=hs;exact Tc q
section
variable{X:Cx}{x:Str}{p pos:Pos}{e:Rl}{es:List Rl}{t:TA}{id T:String}{r:List V->Hp->VK->Prop}
def Mh(r:List V->Hp->VK->Prop)(t:TA):TE:=λσ H Q=>t σ H λvs H1=>r vs H1 Q
theorem rF(hc:dN X (.builtin id) r)(hg:Gl X x)(hm:X.mg x=none)(hv:Tn x=some (.builtin id))(ha:PA X (e::es) t)(hn:x≠"__name__":=by decide)(hdb:(x==("__debug__":Str))=false:=by decide)(he:RB (e::es) X.env=(false,RC e X.env)::RB es X.env:=by rfl)(hpl:(RP pos (RB es X.env)).any (·.1)=false:=by rfl):PE X (.Call (.Name x p) (e::es) [] pos) (Mh r t):=by intro pins s σ H Q I h;refine US (rd I hg hm hv ?_ hn hdb);exact PyProof.Rows.callWith_builtin1 (cZ (ha pos pins s σ H _ I h) λus s1⟨vs,H1,I1,r1,q1⟩=>hc pins s1 σ H1 vs us Q I1 r1 q1) he hpl
theorem uj(hc:dN X (.type T) r)(hg:Gl X x)(hm:X.mg x=none)(hv:Tn x=some (.type T))(ha:PA X (e::es) t)(hn:x≠"__name__":=by decide)(hdb:(x==("__debug__":Str))=false:=by decide)(he:RB (e::es) X.env=(false,RC e X.env)::RB es X.env:=by rfl)(hpl:(RP pos (RB es X.env)).any (·.1)=false:=by rfl):PE X (.Call (.Name x p) (e::es) [] pos) (Mh r t):=by intro pins s σ H Q I h;refine US (rd I hg hm hv ?_ hn hdb);exact VR (cZ (ha pos pins s σ H _ I h) λus s1⟨vs,H1,I1,r1,q1⟩=>hc pins s1 σ H1 vs us Q I1 r1 q1) he hpl
end
end L2
namespace HT
open PySem PyProof.Rows
section
open PySem.SeqAt
open PySem.AutoSeq1 (wpAny_loadPart')
open PySem.MeetsSeq PySem.MeetsSeq2 PySem.MeetsSeq3
end
section
variable{prog:Rw}{w:Ro}{A:Rz}{E:Oq->Rg->Prop}{s:Rg}
theorem cat_tup{t b:xM}{vs ws:List Oq}{Q:Oq->Rg->Prop}(ht:IsTup s.heap t vs.toArray)(hb:IsTup s.heap b ws.toArray)(hv:vs≠[])(h1:ws=[]->Q (.ref t) s)(h2:ws≠[]->Q (.ref s.heap.objs.size) {s with heap:=s.heap.push {cls:=.type "tuple",data:=.seq (vs++ws).toArray}})(hsz:vs.length+ws.length<=RH):Rr (Ry prog w) A (Sx .Add (.ref t) (.ref b)) Q E s:=by
 obtain⟨⟨cls,dd,data,sl⟩,ho,hc,n,hd⟩:=id ht;obtain⟨⟨cls2,dd2,data2,sl2⟩,ho2,hc2,n2,hd2⟩:=id hb;simp only at hc hd hc2 hd2;subst hc hd hc2 hd2;have e:vs.toArray++ws.toArray=(vs++ws).toArray:=by simp
 by_cases hw:ws=[];·exact concat_meets ⟨_,ho,rfl⟩ ⟨_,ho2,rfl⟩ noFill_tuple_add seq_tuple_add PySem.F.slot_tuple_add PySem.F.entry_tuple_add (PySem.F.args_tuple_add_2 _ _) (tuple_addW1 t b vs.toArray ws.toArray n n2 dd dd2 sl sl2 (by simpa using hv) (by simp[hw])) ⟨ho,ho2,h1 hw⟩
 ·refine concat_meets ⟨_,ho,rfl⟩ ⟨_,ho2,rfl⟩ noFill_tuple_add seq_tuple_add PySem.F.slot_tuple_add PySem.F.entry_tuple_add (PySem.F.args_tuple_add_2 _ _) (tuple_addW2 t b vs.toArray ws.toArray n n2 dd dd2 sl sl2 (by simpa using hv) (by simpa using hw) (by rw[RV,RV];exact hsz)) ⟨ho,ho2,?_⟩;rw[e];exact h2 hw
def sIx(n d:Nat):Option Int->Nat|none=>d|some v=>if v<0 then(v+(n:Int)).toNat else min v.toNat n
theorem JP(n d:Nat)(hd:d<=n)(o:Option Int):sIx n d o<=n:=by cases o with|none=>exact hd|some v=>
 show(if v<0 then(v+(n:Int)).toNat else min v.toNat n)<=n;by_cases hv:v<0;·rw[if_pos hv];lia
 ·rw[if_neg hv];exact Nat.min_le_right _ _
theorem zB(v:Int)(n d:Nat):(if v<0 then max (v+(n:Int)) 0 else min v (n:Int))=((sIx n d (some v):Nat):Int):=by
 show(if v<0 then max (v+(n:Int)) 0 else min v (n:Int))=(((if v<0 then(v+(n:Int)).toNat else min v.toNat n):Nat):Int);by_cases hv:v<0;·simp only[if_pos hv];lia
 ·simp only[if_neg hv];lia
theorem yk(lo hi:Option Int)(n:Nat):VW lo hi 1 (n:Int)=(((sIx n 0 lo:Nat):Int),((sIx n n hi:Nat):Int)):=by
 have h1:¬((1:Int)<0):=by lia
 unfold VW;simp only[h1,if_false];refine Prod.ext ?_ ?_;·cases lo with|none=>rfl|some v=>exact zB v n 0
 ·cases hi with|none=>rfl|some v=>exact zB v n n
theorem yS(i j:Nat):Vq (i:Int) (j:Int) 1=j-i:=by
 unfold Vq;have h1:(1:Int)>0:=by lia
 simp only[h1,if_true,Int.ediv_one];split<;>lia
theorem sr{v:Oq}{o:Option Int}{Q:Option Int->Rg->Prop}(p:IsPart v o)(h:Q o s):Rr (Ry prog w) A (Builtin.Slice.slicePartIndex v) Q E s:=by cases p with|none=>exact slicePart_none h|int i t=>exact slicePart_int h
theorem jE{sl:xM}{vl vu:Oq}{lo hi:Option Int}{n:Nat}{Q:Int×Int×Nat->Rg->Prop}(hs:s.heap.IsSliceOf sl vl vu .none)(pl:IsPart vl lo)(pu:IsPart vu hi)(h:Q (((sIx n 0 lo:Nat):Int),1,sIx n n hi-sIx n 0 lo) s):Rr (Ry prog w) A (Wn (.ref sl) (pure (n:Int))) Q E s:=by obtain⟨os,hos,hcs,hds⟩:=id hs;unfold Wn Builtin.Slice.sliceFields;refine Rq (Rq (SV hos hds (x:=vl) rfl (Rq (SV hos hds (x:=vu) rfl (Rq (SV hos hds (x:=.none) rfl (RG ?_)))))));refine Rq (slicePart_none ?_);show Rr _ _ (if ((1:Int)==0)=true then _ else _) _ _ s;rw[if_neg (by decide)];refine Rq (sr pl (Rq (sr pu (Rq (RG ?_)))));show Rr _ _ (match VW lo hi 1 (n:Int) with|(lo,hi)=>pure (lo,(1:Int),Vq lo hi 1)) _ _ s;rw[yk lo hi n];show Rr _ _ (pure (((sIx n 0 lo:Nat):Int),(1:Int),Vq ((sIx n 0 lo:Nat):Int) ((sIx n n hi:Nat):Int) 1)) _ _ s;rw[yS];exact RG h
theorem C2(xs:Array Oq)(i k:Nat):((TM k).filterMap fun(m:Nat)=>xs[((i:Int)+(m:Int)*1).toNat]?).toArray=((xs.toList.drop i).take k).toArray:=by
 have e:(fun(m:Nat)=>xs[((i:Int)+(m:Int)*1).toNat]?)=λm=>xs[i+m]?:=by
  funext m;have:((i:Int)+(m:Int)*1).toNat=i+m:=by lia
  rw[this]
 rw[e];have:=pick_run xs i k;rw[List.filterMap_map]at this;have e2:((λx=>xs[x]?)∘λx=>i+x)=λm=>xs[i+m]?:=rfl;rw[e2]at this;rw[this]
theorem getItem_tuple_cut{t sl:xM}{items:Array Oq}{vl vu:Oq}{lo hi:Option Int}{Q:Oq->Rg->Prop}(ht:IsTup s.heap t items)(hs:s.heap.IsSliceOf sl vl vu .none)(pl:IsPart vl lo)(pu:IsPart vu hi)(hw:¬(sIx items.size 0 lo=0/\sIx items.size items.size hi=items.size))(h:Q (.ref s.heap.objs.size) {s with heap:=s.heap.push {cls:=.type "tuple",data:=.seq ((items.toList.drop (sIx items.size 0 lo)).take (sIx items.size items.size hi-sIx items.size 0 lo)).toArray}})(hsz:items.size<=RH):Rr (Ry prog w) A (getItem (.ref t) (.ref sl)) Q E s:=by
 have htake:sizeOk (.seq ((items.toList.drop (sIx items.size 0 lo)).take (sIx items.size items.size hi-sIx items.size 0 lo)).toArray):=by show((items.toList.drop (sIx items.size 0 lo)).take (sIx items.size items.size hi-sIx items.size 0 lo)).toArray.size<=RH;rw[RV,List.length_take,List.length_drop,VQ];lia
 have hj:sIx items.size items.size hi<=items.size:=JP _ _ (RL _) hi;obtain⟨os,hos,hcs,hds⟩:=id hs;have hTs:s.TypeIs (.ref sl) "slice":=⟨os,hos,hcs⟩;unfold getItem;try with_reducible refine wpAny_holding ?_
 first|refine Rq (RG ?_)|skip
 refine Rq (wpAny_sequenceKey ht.typeIs (by decide) ?_);refine Rq (UJ (name:=Rm "__getitem__") ht.typeIs Uw (Ux Uw ht.typeIs entry_tuple_getitem ?_ (args_tuple_getitem _ _)));show Rr _ _ (Wo (.ref t)>>=_) _ _ s;refine Rq (tupleItemsOf_ ht ?_);refine Rq (wpAny_typeOf hTs ?_);rw[if_pos (by decide)];refine Rq (jE hs pl pu ?_);have hno:¬((((sIx items.size 0 lo:Nat):Int)==0&&(1:Int)==1&&(sIx items.size items.size hi-sIx items.size 0 lo)==items.size)=true):=by intro q;rw[Sr,Sr]at q;have q1:((sIx items.size 0 lo:Nat):Int)=0:=eq_of_beq q.1.1;have q2:sIx items.size items.size hi-sIx items.size 0 lo=items.size:=eq_of_beq q.2;exact hw ⟨by lia,by lia⟩
 show Rr _ _ (if (((sIx items.size 0 lo:Nat):Int)==0&&(1:Int)==1&&(sIx items.size items.size hi-sIx items.size 0 lo)==items.size)=true then _ else _) _ _ s;rw[if_neg hno,C2];first|exact Rq (m:=UK _) (Ue (RG ⟨_,rfl,RG h⟩) htake)|exact Rq (m:=UK _) (Ue (Rq (RG (RG ⟨_,rfl,RG h⟩))) htake)|exact Rq (Rq (m:=UK _) (Ue (RG (RG ⟨_,rfl,RG h⟩)) htake))|exact Rq (Rq (m:=UK _) (Ue (RG ⟨_,rfl,RG h⟩) htake))
end
end HT
namespace L2
open PySem PySem.Spec PyProof.Rows
abbrev TO:=St->Hp->(Option Int->Hp->Prop)->Prop
def PO(X:Cx)(e:Option Rl)(t:TO):Prop:=∀(pins:List (xM×Obj)) (s:Rg) (σ:St) (H:Hp) (Q:Option Int->Hp->Prop),aI X pins σ H s->t σ H Q->Rr (Ry X.prog X.w) X.A (evalPart e X.env) (λu s'=>∃o H',aI X pins σ H' s'/\IsPart u o/\Q o H') X.xe s
def Gq:TO:=λ_ H Q=>Q none H
def LQ(t:TE):TO:=λσ H Q=>t σ H λx H1=>∃i,x=.int i/\Q (some i) H1
theorem qZ{ns:List Int}:∀{us:List Oq},aW (ns.map V.int) us->TX us ns:=by induction ns with|nil=>intro us r;rw[Sy]at r;cases r;exact .nil|cons n ns ih=>intro us r;rw[Sb]at r;cases r with|cons r1 r2=>obtain⟨t,e⟩:=r1;subst e;exact .cons n t (ih r2)
section
variable{X:Cx}{e:Rl}{te:TE}{lo hi:Option Rl}{tl th:TO}{pos p2:Pos}
theorem FK:PO X none Gq:=by intro pins s σ H Q I h;rw[evalPart_none];exact RG ⟨none,H,I,.none,h⟩
theorem FL(h:PE X e te):PO X (some e) (LQ te):=by intro pins s σ H Q I hw;rw[evalPart_some];refine cZ (h pins s σ H _ I hw) λu s1⟨x,H1,I1,r1,q1⟩=>?_;obtain⟨i,rfl,q⟩:=q1;obtain⟨t,rfl⟩:=r1;exact⟨some i,H1,I1,.int i t,q⟩
def Ee(X:Cx)(r:V->Option Int->Option Int->Hp->VK->Prop):Prop:=∀(pins:List (xM×Obj)) (s:Rg) (σ:St) (H:Hp) (x:V) (v vl vu:Oq) (lo hi:Option Int) (sl:xM) (Q:VK),aI X pins σ H s->bW x v->s.heap.IsSliceOf sl vl vu .none->IsPart vl lo->IsPart vu hi->r x lo hi H Q->∃T id,typeLookup (.type T) "__getitem__"=pure (some (.builtin id))/\s.TypeIs v T/\Rr (Ry X.prog X.w) X.A (getItem v (.ref sl)) (EP X pins σ Q) X.xe s
theorem Ee.or{r r':V->Option Int->Option Int->Hp->VK->Prop}(h:Ee X r)(h':Ee X r'):Ee X (λx lo hi H Q=>r x lo hi H Q\/r' x lo hi H Q):=by
 intro pins s σ H x v vl vu lo hi sl Q I rx hs pl pu q;rcases q with q|q;·exact h pins s σ H x v vl vu lo hi sl Q I rx hs pl pu q
 ·exact h' pins s σ H x v vl vu lo hi sl Q I rx hs pl pu q
def Og(r:V->Option Int->Option Int->Hp->VK->Prop)(te:TE)(tl th:TO):TE:=λσ H Q=>te σ H λx H1=>tl σ H1 λl H2=>th σ H2 λu H3=>r x l u H3 Q
theorem rG{r:V->Option Int->Option Int->Hp->VK->Prop}(hr:Ee X r)(he:PE X e te)(hl:PO X lo tl)(hu:PO X hi th):PE X (.Subscript e (.Slice lo hi none p2) pos) (Og r te tl th):=by intro pins s σ H Q I h;refine Subscript_ (cZ (he pins s σ H _ I h) λv s1⟨x,H1,I1,r1,q1⟩=>?_);refine wpAny_Slice (cZ (hl pins s1 σ H1 _ I1 q1) λvl s2⟨l,H2,I2,pl,q2⟩=>cZ (hu pins s2 σ H2 _ I2 q2) λvu s3⟨u,H3,I3,pu,q3⟩=>?_);rw[evalPart_none];refine RG ?_;have I4:aI X pins σ H3 {s3 with heap:=s3.heap.push {cls:=.type "slice",data:=.fields #[vl,vu,.none]}}:=I3.kept (t':=s3.toks) λb ob q=>Sf _ q;obtain⟨T,id,hT,ht,hg⟩:=hr pins {s3 with heap:=s3.heap.push {cls:=.type "slice",data:=.fields #[vl,vu,.none]}} σ H3 x v vl vu l u s3.heap.objs.size Q I4 r1 (Heap.IsSliceOf.new ..) pl pu q3;show Rr (Ry X.prog X.w) X.A (subscriptTail e (.Slice lo hi none p2) v (.ref s3.heap.objs.size)) (EP X pins σ Q) X.xe {s3 with heap:=s3.heap.push {cls:=.type "slice",data:=.fields #[vl,vu,.none]}};exact tail_any (ops:=[.ref s3.heap.objs.size,v]) ht hT hg (by with_unfolding_all rfl)
def qd(xs:List V)(lo hi:Option Int):List V:=(xs.drop (HT.sIx xs.length 0 lo)).take (HT.sIx xs.length xs.length hi-HT.sIx xs.length 0 lo)
theorem pJ(xs:List V)(lo hi:Option Int):(qd xs lo hi).length<=xs.length:=by unfold qd;rw[List.length_take,List.length_drop];lia
def Lw(K:Rj):V->Option Int->Option Int->Hp->VK->Prop:=λx lo hi H Q=>∃a xs,x=.ref a/\ff K H a xs/\¬(HT.sIx xs.length 0 lo=0/\HT.sIx xs.length xs.length hi=xs.length)/\∀p,H p=none->Q (.ref p) (bg H p (.tup (qd xs lo hi)))
theorem JR:Ee X (Lw X.K):=by
 intro pins s σ H x v vl vu lo hi sl Q I rx hs pl pu h;obtain⟨a,xs,rfl,hx,hw,q⟩:=h;cases rx;obtain⟨its,r,ht,hz⟩:=I.tuple hx;have hlen:its.toArray.size=xs.length:=by rw[RV];exact r.length.symm
 refine⟨"tuple",_,Uw.lookup,ht.typeIs,?_⟩;refine HT.getItem_tuple_cut ht hs pl pu (by rw[hlen];exact hw) ?_ (by rw[hlen];exact hz);rw[hlen];refine⟨.ref s.heap.objs.size,_,I.laid (t':=s.toks) (o:=.tup (qd xs lo hi)) (λb ob q=>Sf _ q) (RL _) ?_,rfl,q _ (I.hok.fresh (RL _))⟩;exact⟨Sl (pJ xs lo hi) hz,_,(r.drop (HT.sIx xs.length 0 lo)).take (HT.sIx xs.length xs.length hi-HT.sIx xs.length 0 lo),sQ.new _ _⟩
def Lo(K:Rj):R2:=λx y H Q=>∃a b xs ys,x=.ref a/\y=.ref b/\ff K H a xs/\ff K H b ys/\xs≠[]/\xs.length+ys.length<=RH/\(ys=[]->Q (.ref a) H)/\(ys≠[]->∀p,H p=none->Q (.ref p) (bg H p (.tup (xs++ys))))
theorem aW.nil_iff{xs:List V}{us:List Oq}(r:aW xs us):us=[]↔xs=[]:=by cases r with|nil=>simp|cons _ _=>simp
theorem Fm:iW X (Sx .Add) (Lo X.K):=by intro pins s σ H x y v u Q I rx ry h;obtain⟨a,b,xs,ys,rfl,rfl,ha,hb,hx,hz,q1,q2⟩:=h;cases rx;cases ry;obtain⟨its,r1,p1,_⟩:=I.tuple ha;obtain⟨its2,r2,p2,_⟩:=I.tuple hb;refine HT.cat_tup p1 p2 (λz=>hx (r1.nil_iff.mp z)) (λz=>⟨.ref a,H,I,rfl,q1 (r2.nil_iff.mp z)⟩) (λz=>?_) (by rw[<-r1.length,<-r2.length];exact hz);refine⟨.ref s.heap.objs.size,_,I.laid (t':=s.toks) (o:=.tup (xs++ys)) (λb ob q=>Sf _ q) (RL _) ?_,rfl,q2 (λw=>z (r2.nil_iff.mpr w)) _ (I.hok.fresh (RL _))⟩;exact⟨by rw[UI];exact hz,_,r1.append r2,sQ.new _ _⟩
end
def KM(n:Nat)(i:Int):Option Nat:=if 0<=i then(if i<n then some i.toNat else none) else if-(n:Int)<=i then some (i+n).toNat else none
def atI{α:Type}(xs:List α)(i:Int):Option α:=(KM xs.length i).bind λj=>xs[j]?
theorem EQ{n:Nat}{i:Int}{j:Nat}(h:KM n i=some j):seqIndex? i n=some j/\j<n/\-(n:Int)<=i/\i<n:=by
 unfold KM at h;by_cases h0:0<=i
 ·rw[if_pos h0]at h;by_cases h1:i<n;·rw[if_pos h1]at h;have e:i.toNat=j:=SB h;exact⟨by rw[seqIndex_of h0 h1,e],by lia,by lia,h1⟩
  ·rw[if_neg h1]at h;cases h
 ·rw[if_neg h0]at h;by_cases h1:-(n:Int)<=i;·rw[if_pos h1]at h;have e:(i+n).toNat=j:=SB h;exact⟨by rw[seqIndex_neg (by lia) h1,e],by lia,h1,by lia⟩
  ·rw[if_neg h1]at h;cases h
theorem zr{α:Type}{xs:List α}{i:Int}{v:α}(h:atI xs i=some v):∃j,seqIndex? i xs.length=some j/\xs[j]?=some v/\j<xs.length/\-(xs.length:Int)<=i/\i<xs.length:=by unfold atI at h;cases e:KM xs.length i with|none=>rw[e]at h;cases h|some j=>rw[e]at h;obtain⟨h1,h2,h3,h4⟩:=EQ e;exact⟨j,h1,h,h2,h3,h4⟩
def mM(b:Rl):Prop:=∀o i,subscripted b false o i=operate [o,i] (getItem o i)
def Er(X:Cx)(r:R2):Prop:=∀(value slice:Rl) (pins:List (xM×Obj)) (s:Rg) (σ:St) (H:Hp) (x y:V) (v u:Oq) (Q:VK),aI X pins σ H s->bW x v->bW y u->r x y H Q->subscripted slice false v u=operate [v,u] (getItem v u)->Rr (Ry X.prog X.w) X.A (subscriptTail value slice v u) (EP X pins σ Q) X.xe s
def HA(X:Cx)(id:String)(r:V->List V->Hp->VK->Prop):Prop:=∀(pins:List (xM×Obj)) (s:Rg) (σ:St) (H:Hp) (x:V) (xs:List V) (v:Oq) (us:List Oq) (Q:VK),aI X pins σ H s->bW x v->aW xs us->r x xs H Q->Rr (Ry X.prog X.w) X.A (call (.builtin id) (v::us)) (EP X pins σ Q) X.xe s
section
variable{X:Cx}{a b:Rl}{ta tb:TE}{pos:Pos}
theorem Er.or{r r':R2}(h:Er X r)(h':Er X r'):Er X (λx y H Q=>r x y H Q\/r' x y H Q):=by
 intro value slice pins s σ H x y v u Q I rx ry q hs;rcases q with q|q;·exact h value slice pins s σ H x y v u Q I rx ry q hs
 ·exact h' value slice pins s σ H x y v u Q I rx ry q hs
theorem CU{r:R2}(hr:Er X r)(ha:PE X a ta)(hb:PE X b tb)(hs:mM b):PE X (.Subscript a b pos) (Kk r ta tb):=by intro pins s σ H Q I h;exact Subscript_ (HG ha hb I h λv u s2 x y H2 I2 rx ry q=>hr a b pins s2 σ H2 x y v u Q I2 rx ry q (hs _ _))
def Lr(K:Rj):R2:=λx y H Q=>∃p xs i v,x=.ref p/\y=.int i/\fX K H p xs/\atI xs i=some v/\Q v H
def Ls(K:Rj):R2:=λx y H Q=>∃p xs i v,x=.ref p/\y=.int i/\ff K H p xs/\atI xs i=some v/\Q v H
theorem zK:Er X (Lr X.K):=by
 intro value slice pins s σ H x y v u Q I rx ry h hs;obtain⟨p,xs,i,z,rfl,rfl,hq,he,q⟩:=h;cases rx;obtain⟨t,rfl⟩:=ry;obtain⟨its,r,pl,hz⟩:=I.list hq;obtain⟨j,h1,h2,h3,h4,h5⟩:=zr he;obtain⟨w,ew,rw'⟩:=r.get h2;have hl:=r.length;have hn:=yH;have fin:EP X pins σ Q w s:=⟨z,H,I,rw',q⟩;by_cases h0:0<=i
 ·have hj:i.toNat=j:=by rw[seqIndex_of h0 h5]at h1;exact SB h1
  exact item_listR pl.isList h0 (by lia) (by rw[hj];simpa using ew) fin hs
 ·have hj:(i+(its.toArray.size:Int)).toNat=j:=by rw[seqIndex_neg (by lia) h4]at h1;rw[RV,<-hl];exact SB h1
  exact subscriptTail_builtinR (x:=w) pl.isList.typeIs slot_list_getitem.lookup (wpAny_getItem_list_neg (Q:=λr s'=>r=w/\EP X pins σ Q r s') pl.isList (by lia) (by rw[RV]<;>lia) (by lia) (by rw[hj];simpa using ew) ⟨rfl,fin⟩) hs
theorem Ig:Er X (Ls X.K):=by intro value slice pins s σ H x y v u Q I rx ry h hs;obtain⟨p,xs,i,z,rfl,rfl,hq,he,q⟩:=h;cases rx;obtain⟨t,rfl⟩:=ry;obtain⟨its,r,pl,hz⟩:=I.tuple hq;obtain⟨j,h1,h2,h3,h4,h5⟩:=zr he;obtain⟨w,ew,rw'⟩:=r.get h2;have hl:=r.length;have hn:=yH;have fin:EP X pins σ Q w s:=⟨z,H,I,rw',q⟩;exact subscriptTail_builtinR (x:=w) pl.typeIs Uw.lookup (getItem_tuple (j:=j) (Q:=λr s'=>r=w/\EP X pins σ Q r s') pl (by lia) (by lia) (by rw[RV,<-hl];exact h1) (by simpa using ew) ⟨rfl,fin⟩) hs
theorem v_(lo hi:Option Int)(n:Nat):(Uy lo hi none n).1=((HT.sIx n 0 lo:Nat):Int)/\(Uy lo hi none n).2.1=((HT.sIx n n hi:Nat):Int)/\(Uy lo hi none n).2.2=1:=by
 refine⟨?_,?_,rfl⟩;·cases lo with|none=>simp[Uy,HT.sIx]|some i=>
  simp only[Uy,HT.sIx,Option.getD_none,show(1:Int)>0 by decide,if_true];by_cases h:i<0;·simp only[h,if_true]<;>lia
  ·simp only[h,if_false]<;>lia
 ·cases hi with|none=>simp[Uy,HT.sIx]|some i=>
  simp only[Uy,HT.sIx,Option.getD_none,show(1:Int)>0 by decide,if_true];by_cases h:i<0;·simp only[h,if_true]<;>lia
  ·simp only[h,if_false]<;>lia
theorem tu(its:List Oq)(lo hi:Option Int):slicePick its.toArray lo hi none=((its.drop (HT.sIx its.length 0 lo)).take (HT.sIx its.length its.length hi-HT.sIx its.length 0 lo)).toArray:=by obtain⟨h1,h2,h3⟩:=v_ lo hi its.toArray.size;unfold slicePick;rw[h1,h2,h3];simp only[sliceRange_one,pick_run,RV]<;>rfl
def Lv(K:Rj):V->Option Int->Option Int->Hp->VK->Prop:=λx lo hi H Q=>∃a xs,x=.ref a/\fX K H a xs/\∀p,H p=none->Q (.ref p) (bg H p (.lst (qd xs lo hi)))
theorem Gh:Ee X (Lv X.K):=by intro pins s σ H x v vl vu lo hi sl Q I rx hs pl pu h;obtain⟨a,xs,rfl,hx,q⟩:=h;cases rx;obtain⟨its,r,ht,hz⟩:=I.list hx;have hlen:=r.length;refine⟨"list",_,slot_list_getitem.lookup,ht.isList.typeIs,?_⟩;refine wpAny_getItem_list_slice ht.isList hs pl pu .none (by simp) ?_ (by rw[RV]<;>lia);rw[tu,<-hlen];refine⟨.ref s.heap.objs.size,_,I.laid (t':=s.toks) (o:=.lst (qd xs lo hi)) (λb ob q=>Sf _ q) (RL _) ?_,rfl,q _ (I.hok.fresh (RL _))⟩;exact⟨Sl (pJ xs lo hi) hz,_,0,(r.drop (HT.sIx xs.length 0 lo)).take (HT.sIx xs.length xs.length hi-HT.sIx xs.length 0 lo),SA _ rfl⟩
def GW:V->Bool|.non=>true|.bl _=>true|.int _=>true|.str _=>true|_=>false
theorem uW:dN X (.builtin "len") (λxs H Q=>∃p ys,xs=[.ref p]/\(fX X.K H p ys\/ff X.K H p ys)/\Q (.int ys.length) H):=by
 intro pins s σ H xs us Q I r h;obtain⟨p,ys,rfl,hq,q⟩:=h;obtain⟨u,rfl,rx⟩:=uL r;cases rx;have hn:=yH;rcases hq with hq|hq;·obtain⟨its,r',pl,hz⟩:=I.list hq;have hlen:=r'.length;exact Calls.call_len_list pl.isList (by simp only[RV]<;>lia) ⟨.int ys.length,H,I.tok _,⟨s.toks+1,by rw[RV,hlen]⟩,q⟩
 ·obtain⟨its,r',pl,hz⟩:=I.tuple hq;have hlen:=r'.length;exact len_tuple pl (by simp only[RV]<;>lia) ⟨.int ys.length,H,I.tok _,⟨s.toks+1,by rw[RV,hlen]⟩,q⟩
theorem uX:dN X (.type "list") (λxs H Q=>∃p ys,xs=[.ref p]/\(fX X.K H p ys\/ff X.K H p ys)/\∀l,H l=none->Q (.ref l) (bg H l (.lst ys))):=by
 intro pins s σ H xs us Q I r h;obtain⟨p,ys,rfl,hq,q⟩:=h;obtain⟨u,rfl,rx⟩:=uL r;cases rx;have fin:∀(its:List Oq),aW ys its->ys.length<=RH->∀(h':Ru) (c':Nat),(∀b o',s.heap.get? b=some o'->h'.get? b=some o')->h'.get? s.heap.objs.size=some {cls:=.type "list",dict:=none,data:=.seq its.toArray c',slots:=#[]}->EP X pins σ Q (.ref s.heap.objs.size) {s with heap:=h'}:=λits r' hz h' c' kp e=>⟨.ref s.heap.objs.size,_,I.laid (t':=s.toks) kp (RL _) (show gQ X.prog X.w _ h' _ (.lst ys) from⟨hz,its,c',r',e⟩),rfl,q _ (I.hok.fresh (RL _))⟩;rcases hq with hq|hq;·obtain⟨its,r',pl,hz⟩:=I.list hq;have hlen:=r'.length;obtain⟨o,ho,hc,n,hd⟩:=pl.isList;exact call_list_seq p (.inl rfl) ho hc hd (λh' c' kp e=>fin its r' hz h' c' kp e) (by simp only[RV]<;>lia)
 ·obtain⟨its,r',pl,hz⟩:=I.tuple hq;have hlen:=r'.length;obtain⟨o,ho,hc,n,hd⟩:=pl;exact call_list_seq p (.inr rfl) ho hc hd (λh' c' kp e=>fin its r' hz h' c' kp e) (by simp only[RV]<;>lia)
theorem sS:dN X (.type "tuple") (λxs H Q=>∃p ys,xs=[.ref p]/\((fX X.K H p ys/\∀l,H l=none->Q (.ref l) (bg H l (.tup ys)))\/(ff X.K H p ys/\Q (.ref p) H))):=by
 intro pins s σ H xs us Q I r h;obtain⟨p,ys,rfl,h⟩:=h;obtain⟨u,rfl,rx⟩:=uL r;cases rx;rcases h with⟨hq,q⟩|⟨hq,q⟩;·obtain⟨its,r',pl,hz⟩:=I.list hq;have hlen:=r'.length;refine call_tuple_list pl.isList (λh' kp=>?_) (by simp only[RV]<;>lia);have I1:aI X pins σ H {s with heap:=h'}:=I.kept (t':=s.toks) kp;have I2:aI X pins σ (bg H h'.objs.size (.tup ys)) {s with heap:=h'.push {cls:=.type "tuple",data:=.seq its.toArray}}:=I1.laid (t':=s.toks) (λb o e=>Sf _ e) (RL _) (show gQ X.prog X.w _ _ _ (.tup ys) from⟨hz,its,r',sQ.new _ _⟩);exact⟨.ref h'.objs.size,_,I2,rfl,q _ (I1.hok.fresh (RL _))⟩
 ·obtain⟨its,r',pl,hz⟩:=I.tuple hq;exact call_tuple_same pl ⟨.ref p,H,I,rfl,q⟩
def Nc(K:Rj)(T:String)(x:V)(H:Hp):Prop:=match x with|.str _=>T="str"|.int _=>T="int"|.ref p=>(T="list"/\∃xs,fX K H p xs)\/(T="tuple"/\∃o,K.lookup p=some o/\o.cls=.type "tuple"/\o.dict=none)\/(T="dict"/\((∃kvs,H p=some (.dK kvs))\/∃kvs,H p=some (.dT kvs)))\/(T="set"/\∃S n,H p=some (.set S n))|_=>False
theorem D_{pins:List (xM×Obj)}{σ:St}{H:Hp}{s:Rg}{T:String}{x:V}{v:Oq}(I:aI X pins σ H s)(r:bW x v)(ty:Nc X.K T x H):
 s.TypeIs v T/\∀a,v=.ref a->∃ob,s.heap.get? a=some ob/\ob.dict=none:=by cases x with|str z=>obtain⟨t,rfl⟩:=r;cases (show T="str"from ty);exact⟨typeIs_str s z t,λ_ e=>nomatch e⟩|int i=>obtain⟨t,rfl⟩:=r;cases (show T="int"from ty);exact⟨UW s i t,λ_ e=>nomatch e⟩|ref p=>
  cases r;rcases ty with⟨rfl,xs,hq⟩|⟨rfl,o,hk,hc,hd⟩|⟨rfl,hk⟩|⟨rfl,S,n,hk⟩;·obtain⟨its,_,pl,_⟩:=I.list hq;refine⟨pl.isList.typeIs,λa e=>?_⟩;cases e;obtain⟨o,n,e,c,hd,_⟩:=pl;exact⟨o,e,hd⟩
  ·refine⟨⟨o,I.kIn p o hk,hc⟩,λa e=>?_⟩;cases e;exact⟨o,I.kIn _ o hk,hd⟩
  ·have z:∃o,s.heap.get? p=some o/\o.ExactDict:=by
    rcases hk with⟨kvs,hk⟩|⟨kvs,hk⟩;·obtain⟨_,_,_,_,o,_,_,e,ex,_⟩:=I.hok p _ hk;exact⟨o,e,ex⟩
    ·obtain⟨_,_,_,_,o,_,_,e,ex,_⟩:=I.hok p _ hk;exact⟨o,e,ex⟩
   obtain⟨o,e,ex⟩:=z;refine⟨⟨o,e,ex.1⟩,λa e2=>?_⟩;cases e2;exact⟨o,e,ex.2.1⟩
  ·obtain⟨o,_,_,_,e,ex,_⟩:=I.hok p _ hk;refine⟨⟨o,e,ex.1⟩,λa e2=>?_⟩;cases e2;exact⟨o,e,ex.2.1⟩|_=>exact Tc ty
def M3(K:Rj)(T:String)(r:V->List V->Hp->VK->Prop)(to:TE):TE:=λσ H Q=>to σ H λx H1=>Nc K T x H1/\r x [] H1 Q
def NE(K:Rj)(T:String)(r:V->List V->Hp->VK->Prop)(to:TE)(t:TA):TE:=λσ H Q=>to σ H λx H1=>Nc K T x H1/\t σ H1 λxs H2=>r x xs H2 Q
variable{o e:Rl}{es:List Rl}{to:TE}{t:TA}{name:Str}{apos cpos:Pos}{T id:String}{r:V->List V->Hp->VK->Prop}
theorem CS(pa:PlainAttrs T)(slot:Slot T name id)(hty:typeOf (.builtin id)=pure (.type "method_descriptor"))(hm:HA X id r)(ho:PE X o to)(hbase:SU o name X.env (RC o X.env)=RC o X.env:=by rfl)(hline:(apos.endLine==cpos.line)=true:=by rfl):PE X (.Call (.Attribute o name apos) [] [] cpos) (M3 X.K T r to):=by intro pins s σ H Q I h;refine wpAny_Call_method0_late hbase hline (cZ (ho pins s σ H _ I h) λv s1⟨x,H1,I1,r1,ty,q1⟩=>?_);obtain⟨h1,h2⟩:=D_ I1 r1 ty;exact⟨T,id,pa,slot,hty,h1,h2,Calls.callWith_builtin rfl (PySem.evalArgs_none (hm pins s1 σ H1 x [] v [] Q I1 r1 .nil q1))⟩
theorem CQ(pa:PlainAttrs T)(slot:Slot T name id)(hty:typeOf (.builtin id)=pure (.type "method_descriptor"))(hm:HA X id r)(ho:PE X o to)(ha:PA X (e::es) t)(hbase:SU o name X.env (RC o X.env)=RC o X.env:=by rfl)(hfew:((RP cpos (RB (e::es) X.env)).all (λx=>!x.1)&&(Tz cpos (TB [] X.env)).all (λx=>x.1.isSome)&&decide ((e::es).length+([]:List SL).length+(if ([]:List SL).isEmpty then 0 else 1)<30))=true:=by rfl)(hline:(apos.endLine==cpos.line)=true:=by rfl)(hs:RB (e::es) X.env=(false,RC e X.env)::RB es X.env:=by rfl)(hplain:(RP cpos (RB es X.env)).any (·.1)=false:=by rfl):PE X (.Call (.Attribute o name apos) (e::es) [] cpos) (NE X.K T r to t):=by intro pins s σ H Q I h;refine wpAny_Call_method_late hbase hfew hline rfl (cZ (ho pins s σ H _ I h) λv s1⟨x,H1,I1,r1,ty,q1⟩=>?_);obtain⟨h1,h2⟩:=D_ I1 r1 ty;refine⟨T,id,pa,slot,hty,h1,h2,?_⟩;have hA:=ha cpos pins s1 σ H1 _ I1 q1;rw[hs]at hA⊢;refine Calls.callWith_builtin (by show(false||(RP cpos (RB es X.env)).any (·.1))=false;rw[hplain]<;>rfl) (Calls.evalArgs_plain ?_);exact cZ hA λus s2⟨vs,H2,I2,r2,q2⟩=>hm pins s2 σ H2 x vs v us Q I2 r1 r2 q2
end
def L7(X:Cx)(id:String)(r:V->List V->Hp->VK->Prop):Prop:=∀(pins:List (xM×Obj)) (s:Rg) (σ:St) (H:Hp) (x:V) (xs:List V) (v:Oq) (us:List Oq) (Q:VK),aI X pins σ H s->bW x v->aW xs us->r x xs H Q->Rr (Ry X.prog X.w) X.A (call (.builtin id) (v::us)) (EP X pins σ Q) X.xe s
theorem aW.one:∀{x:V}{us:List Oq},aW [x] us->∃u,us=[u]/\bW x u|_,_,.cons r .nil=>⟨_,rfl,r⟩
theorem aW.zero:∀{us:List Oq},aW [] us->us=[]|_,.nil=>rfl
theorem aW.dropLast{xs:List V}{us:List Oq}(h:aW xs us):aW xs.dropLast us.dropLast:=by induction h with|nil=>exact .nil|cons r t ih=>cases t with|nil=>exact .nil|cons q t'=>exact .cons r ih
theorem aW.eraseIdx:∀{xs:List V}{us:List Oq}(i:Nat),aW xs us->aW (xs.eraseIdx i) (us.eraseIdx i)|_,_,_,.nil=>.nil|_,_,0,.cons _ t=>t|_,_,i+1,.cons r t=>.cons r (aW.eraseIdx i t)
theorem aW.rep{xs:List V}{us:List Oq}(h:aW xs us):∀k:Nat,aW (RF k xs).flatten (RF k us).flatten|0=>.nil|k+1=>by rw[Uo,Uo,Vr,Vr];exact aW.append h (aW.rep h k)
theorem yw{α:Type}(l:List α):l.eraseIdx (l.length-1)=l.dropLast:=by induction l with|nil=>rfl|cons a r ih=>cases r with|nil=>rfl|cons b r=>
 have e:(a::b::r).length-1=((b::r).length-1)+1:=by have h1:(a::b::r).length=r.length+2:=rfl;have h2:(b::r).length=r.length+1:=rfl;lia
 rw[e,List.eraseIdx_cons_succ,ih];all_goals rfl
theorem uc{α:Type}:∀(l:List α) (i:Nat),(l.eraseIdx i).length<=l.length|[],_=>RL _|_::_,0=>Nat.le_succ _|_::r,i+1=>Nat.succ_le_succ (uc r i)
theorem tY(its:List Oq):∀(k:Nat) (acc:List Oq),UL (λx1 x2=>x1++x2) acc.toArray (RF k its.toArray)=(acc++(RF k its).flatten).toArray
 |0,acc=>by simp|k+1,acc=>by
  have e:acc.toArray++its.toArray=(acc++its).toArray:=by simp
  have e2:(acc++its)++(RF k its).flatten=acc++(RF (k+1) its).flatten:=by rw[Uo,Vr,List.append_assoc]
  rw[<-e2,<-tY its k (acc++its),<-e,Uo,List.foldl_cons]
section
variable{X:Cx}{pins:List (xM×Obj)}{σ:St}{H:Hp}{s:Rg}{l b:xM}{xs ys zs:List V}
theorem aI.lset{its its':List Oq}{n:Nat}{f:Array Oq->Array Oq}{t':Nat}(I:aI X pins σ H s)(hH:H l=some (.lst xs))(e:s.heap.get? l=some {cls:=.type "list",data:=.seq its.toArray n})(hf:f its.toArray=its'.toArray)(hv:aW ys its')(hz:ys.length<=RH):aI X pins σ (bg H l (.lst ys)) {s with heap:=s.heap.update l (Uq f),toks:=t'}:=by have q:=PySem.IsL.update e f;rw[hf]at q;refine I.write (x:=l) (e:=l) (by rw[hH];exact trivial) (.inl rfl) (λb' u hb hu=>(Heap.get?_update_other s.heap (Uq f) (RJ hb)).trans hu) ⟨_,q⟩ ?_;exact⟨hz,its',_,hv,q⟩
theorem aI.lnew{its:List Oq}{t':Nat}(I:aI X pins σ H s)(hv:aW ys its)(hz:ys.length<=RH):aI X pins σ (bg H s.heap.objs.size (.lst ys)) {s with heap:=s.heap.push {cls:=.type "list",data:=.seq its.toArray},toks:=t'}:=I.laid (λ_ _ q=>Sf _ q) (RL _) ⟨hz,its,0,hv,SA _ rfl⟩
theorem aI.fresh(I:aI X pins σ H s):H s.heap.objs.size=none:=I.hok.fresh (RL _)
theorem aI.lstM(I:aI X pins σ H s)(hH:H l=some (.lst xs)):xs.length<=RH/\∃(its:List Oq) (n:Nat),aW xs its/\xs.length=its.length/\s.heap.get? l=some {cls:=.type "list",data:=.seq its.toArray n}:=by obtain⟨z,its,n,r,e⟩:=I.hok l _ hH;exact⟨z,its,n,r,r.length,e⟩
theorem CF{n:Nat}(h:n<=RH):VX n=false:=by unfold VX;exact decide_eq_false (by lia)
end
section
variable{X:Cx}
def zV:V->List V->Hp->VK->Prop:=λx vs H Q=>∃l xs y,x=.ref l/\vs=[y]/\H l=some (.lst xs)/\xs.length<RH/\Q .non (bg H l (.lst (xs++[y])))
theorem ug:L7 X "list.append" zV:=by intro pins s σ H x vs v us Q I rx rv h;obtain⟨l,xs,y,rfl,rfl,hH,hz,q⟩:=h;cases rx;obtain⟨u,rfl,ru⟩:=rv.one;obtain⟨z,its,n,r,hl,e⟩:=I.lstM hH;refine Tr F.slot_list_append ⟨_,e,rfl⟩ F.entry_list_append (F.args_list_append_2 _ _) (PySem.list_append l its.toArray n u (by rw[RV];lia)) ⟨e,?_⟩;refine⟨.non,_,I.lset (its':=its++[u]) hH e (by simp) (r.append (.cons ru .nil)) ?_,rfl,q⟩;rw[UI,List.length_singleton];lia
def Lu:V->List V->Hp->VK->Prop:=λx vs H Q=>∃l xs y,x=.ref l/\vs=[]/\H l=some (.lst xs)/\xs[xs.length-1]?=some y/\Q y (bg H l (.lst xs.dropLast))
theorem IR:L7 X "list.pop" Lu:=by
 intro pins s σ H x vs v us Q I rx rv h;obtain⟨l,xs,y,rfl,rfl,hH,hy,q⟩:=h;cases rx;have hus:=rv.zero;subst hus;obtain⟨z,its,n,r,hl,e⟩:=I.lstM hH;obtain⟨u,hu,ru⟩:=r.get hy;have hy':its.toArray[its.toArray.size-1]?=some u:=by show its.toArray[its.length-1]?=some u;rw[<-Array.getElem?_toList,<-hl];exact hu
 refine Tr Vs ⟨_,e,rfl⟩ F.entry_list_pop (F.args_list_pop_1 _) (MeetsSeq.list_pop_last l its.toArray n u hy' (by rw[RV];lia)) ⟨e,?_⟩;refine⟨y,_,I.lset (its':=its.dropLast) hH e ?_ r.dropLast ?_,ru,q⟩;·show its.toArray.eraseIdxIfInBounds (its.toArray.size-1)=its.dropLast.toArray;rw[RV,List.eraseIdxIfInBounds_toArray,yw]
 ·rw[List.length_dropLast];lia
def Du:V->List V->Hp->VK->Prop:=λx vs H Q=>∃l xs i k y,x=.ref l/\vs=[.int i]/\H l=some (.lst xs)/\-(2^63)<=i/\i<2^63/\seqIndex? i xs.length=some k/\xs[k]?=some y/\Q y (bg H l (.lst (xs.eraseIdx k)))
theorem Ct:L7 X "list.pop" Du:=by
 intro pins s σ H x vs v us Q I rx rv h;obtain⟨l,xs,i,k,y,rfl,rfl,hH,h1,h2,hk,hy,q⟩:=h;cases rx;obtain⟨u,rfl,ru⟩:=rv.one;obtain⟨t,rfl⟩:=ru;obtain⟨z,its,n,r,hl,e⟩:=I.lstM hH;obtain⟨w,hw,rw'⟩:=r.get hy;refine Tr Vs ⟨_,e,rfl⟩ F.entry_list_pop (F.args_list_pop_2 _ _) (MeetsSeq.list_pop_at l its.toArray n i t k w (fitsIndex_both h1 h2) (by rw[RV,<-hl];exact hk) (by rw[<-Array.getElem?_toList];exact hw) (by rw[RV];lia)) ⟨e,?_⟩;refine⟨y,_,I.lset (its':=its.eraseIdx k) hH e ?_ (r.eraseIdx k) ?_,rw',q⟩;·show its.toArray.eraseIdxIfInBounds k=(its.eraseIdx k).toArray;rw[List.eraseIdxIfInBounds_toArray]
 ·have:=uc xs k;lia
def Ds:V->List V->Hp->VK->Prop:=λx vs H Q=>∃l xs,x=.ref l/\vs=[]/\H l=some (.lst xs)/\Q .non (bg H l (.lst []))
theorem Cs:L7 X "list.clear" Ds:=by intro pins s σ H x vs v us Q I rx rv h;obtain⟨l,xs,rfl,rfl,hH,q⟩:=h;cases rx;have hus:=rv.zero;subst hus;obtain⟨z,its,n,r,hl,e⟩:=I.lstM hH;refine Tr F.slot_list_clear ⟨_,e,rfl⟩ F.entry_list_clear (F.args_list_clear_1 _) (AutoSeq1.list_clear_list_0 l its.toArray n (by rw[RV];lia)) ⟨e,?_⟩;exact⟨.non,_,I.lset (its':=[]) (ys:=[]) hH e rfl .nil (Tq _),rfl,q⟩
def JG:R2:=λx y H Q=>∃l b xs zs,x=.ref l/\y=.ref b/\H l=some (.lst xs)/\H b=some (.lst zs)/\xs.length+zs.length<=RH/\∀p,H p=none->Q (.ref p) (bg H p (.lst (xs++zs)))
theorem Jd:iW X (Sx .Add) JG:=by
 intro pins s σ H x y v u Q I rx ry h;obtain⟨l,b,xs,zs,rfl,rfl,hH,hB,hz,q⟩:=h;cases rx;cases ry;obtain⟨z,its,n,r,hl,e⟩:=I.lstM hH;obtain⟨z2,its2,n2,r2,hl2,e2⟩:=I.lstM hB;refine PySem.P.add_list e e2 ?_ (by rw[RV,RV];lia);have ea:its.toArray++its2.toArray=(its++its2).toArray:=by simp
 rw[ea];exact⟨.ref _,_,I.lnew (t':=s.toks) (r.append r2) (by rw[UI];lia),rfl,q _ I.fresh⟩
def JK:R2:=λx y H Q=>∃l k xs,x=.ref l/\y=.int k/\H l=some (.lst xs)/\-(2^63)<=k/\k<2^63/\xs.length*k.toNat<=RH/\∀p,H p=none->Q (.ref p) (bg H p (.lst (RF k.toNat xs).flatten))
theorem EZ{α:Type}(xs:List α)(k:Nat):(RF k xs).flatten.length=k*xs.length:=by induction k with|zero=>simp|succ k ih=>rw[Uo,Vr,UI,ih,Nat.succ_mul,Nat.add_comm]
theorem Jm:iW X (Sx .Mult) JK:=by
 intro pins s σ H x y v u Q I rx ry h;obtain⟨l,k,xs,rfl,rfl,hH,h1,h2,hz,q⟩:=h;cases rx;obtain⟨t,rfl⟩:=ry;obtain⟨z,its,n,r,hl,e⟩:=I.lstM hH;have hlen:its.toArray.size*k.toNat<=RH:=by rw[RV,<-hl];exact hz
 have hcap:¬its.toArray.size*k.toNat>(2^63-1)/8:=by
  have:(RH:Nat)<=(2^63-1)/8:=by decide
  lia
 have hfit:¬(!Builtin.List.listFitsIndex k)=true:=by rw[fitsIndex_both h1 h2];exact Ug
 have hlong:¬VX (its.toArray.size*k.toNat)=true:=by rw[CF hlen];exact Ug
 have hnew:UL (λx1 x2=>x1++x2) #[] (RF (if its.toArray.isEmpty=true then 0 else k.toNat) its.toArray)=(RF k.toNat its).flatten.toArray:=by
  have f0:∀m:Nat,UL (λx1 x2=>x1++x2) #[] (RF m its.toArray)=(RF m its).flatten.toArray:=λm=>by have:=tY its m [];rw[SR]at this;exact this
  rw[f0];cases its with|nil=>simp|cons a r'=>rw[if_neg (by simp)]
 refine wpAny_binaryOp_repeat_ref (T:="list") (U:="int") (by decide) ⟨_,e,rfl⟩ (λs'=>UW s' k t) noFill_list_mul F.fills_int_mul Vt repeat_list F.slot_int_index.lookup (Tr Vt (UW s k t) F.entry_int_rmul (F.args_int_rmul_2 _ _) (int___rmul___int_list k t l its.toArray n) ⟨e,rfl,⟨_,e,rfl⟩,Tr F.slot_list_mul ⟨_,e,rfl⟩ F.entry_list_mul (F.args_list_mul_2 _ _) (AutoListH.list___mul___list_int_3 l its.toArray n k t hfit hcap hlong) ⟨e,?_⟩⟩);rw[hnew];exact⟨.ref _,_,I.lnew (t':=s.toks) (r.rep k.toNat) (by rw[EZ,Nat.mul_comm];exact hz),rfl,q _ I.fresh⟩
end
section
variable{prog:Rw}{w:Ro}{A:Rz}{E:Oq->Rg->Prop}{s:Rg}
end
section
variable{X:Cx}
end
end L2
namespace Att
open PySem PySem.W PySem.Calls PyProof.Rows
theorem qf{P:Params}{h:Ru}:∀(ns:List Int) (vs:List Oq),WellAll P h vs (ns.map WData.int)->TX vs ns:=by intro ns;induction ns with|nil=>intro vs w;rw[Sy]at w;cases w;exact .nil|cons n ns ih=>intro vs w;rw[Sb]at w;cases w with|cons a b=>cases a;exact .cons _ _ (ih _ b)
theorem A9{l:OpenLaw}{n:Nat}(hn:l.most=some n){P:Params}{h:Ru}{args:List WData}{vals:List Oq}(hpre:l.row.toRowW.claim.pre args=true)(hwl:WellAll P h vals args):∃a vs ns,vals=[Value.ref a]/\args=[WData.list (ns.map WData.int)]/\h.get? a=some {cls:=.type "list",data:=.seq vs.toArray}/\TX vs ns/\ns.length<=n:=by
 have hsh:WShape.hasAll [] args [.list .int]=true:=(pre_splitW hpre).1;have hc:l.pre.holds [] {args:=args}=true:=(pre_splitW hpre).2;obtain⟨d,r,rfl,h1,h2⟩:=hasAllW_cons hsh;obtain rfl:=hasAllW_nil h2;obtain⟨xs,rfl,h3⟩:=hasW_list h1;obtain⟨ns,rfl⟩:=items_int h3;have hlen:ns.length<=n:=by
  unfold OpenLaw.pre at hc;have h4:(WTm.not (.lt (.lit (.int (n:Int))) (.len (.arg 0)))).holds [] {args:=[.list (ns.map .int)]}=true:=by have h4:=(holds_andW hc).1;rw[hn]at h4;exact h4
  have h5:=condW_of h4 (w_not (w_lt w_lit (w_len_list (w_arg rfl))));rw[RQ]at h5;refine Nat.le_of_not_lt λq=>?_;have q':(n:Int)<((ns.length:Nat):Int):=by lia
  first|(rw[decide_eq_true q']at h5;exact absurd h5 (by decide))|(simp at h5;lia)
 cases hwl with|cons w1 w2=>cases w2;cases w1 with|list ho hall=>exact⟨_,_,ns,rfl,rfl,ho,qf ns _ hall,hlen⟩
theorem A0(l:OpenLaw)(args:List WData):l.row.toRowW.claim.post args (.bool true) args=true:=postW_of (r:=l.row.toRowW) (X:=(true==true)) (show WShape.has [] (.bool true) .bool=true by first|rfl|decide|simp[WShape.has,WShape.arms,WShape.armsAll]) (show(WTm.eq .res (.lit (.bool true))).value [] {args:=args,res:=some (.bool true),after:=args}=some (.bool (true==true)) from w_eq_bool (w_res rfl) w_lit) rfl
theorem attach_call{l:OpenLaw}{n:Nat}{q:Rw}{loose:List Str}{XP:(Str->Option Oq)->Ru->Prop}{YP:Ro->Ru->Prop}{d:DefRec}(hn:l.most=some n)(hdf:d.params.defaults=[])(call:∀(w:Ro) (s₀ s₁:Rg) (mg mb:Str->Option Oq) (fa:xM) (o:Obj) (pm cd doc:Oq) (a:xM) (vs:List Oq) (ns:List Int),Ground q loose [] XP w s₀ mg mb s₁.heap->YP w s₁.heap->s₁.heap.get? fa=some o->o.data=.func (docDef d.name d.params d.body d.scope pm cd doc)->s₁.heap.CodeRec cd d.name->mg d.name=some (.ref fa)->s₁.heap.get? a=some {cls:=.type "list",data:=.seq vs.toArray}->TX vs ns->ns.length<=n->s₁.gens=#[]->codeAny (Ry l.prog w) callerA (.call (.ref fa) ⟨[.ref a],[]⟩) (λr s'=>r=.ok (.ret (.bool true))/\OldK s₁.heap s'.heap/\s'.os=s₁.os/\AllBare s'.gens) s₁):WalkO q loose XP YP l.row.toRowW d [] (λf vs=>PySem.call f vs):=by intro w s₀ s₁ mg mb G Y fa o pm cd doc dV kV ho hd hcd hD hmg hg args vals as hpre hlay hrd hwl hlo;obtain rfl:dV=.none:=Dflts.none hD hdf;obtain rfl:kV=.none:=Dflts.noKw hD;obtain⟨a,vs,ns,rfl,rfl,hobj,hints,hlen⟩:=A9 hn hpre hwl;refine enter_call (codeAny_mono (call w s₀ s₁ mg mb fa o pm cd doc a vs ns G Y ho (fd_plain hd) hcd hmg hobj hints hlen hg) λr s' hq=>?_);obtain⟨rfl,h2,h3,h4⟩:=hq;exact⟨.inl ⟨.bool true,.bool true,[],rfl,λ_=>rfl,.bool true,A0 l _,λ_=>⟨List.Pairwise.nil,λ_ hm=>(nomatch hm)⟩⟩,h2,h3,h4⟩
section
variable{prog:Rw}{w:Ro}{A:Rz}{E:Oq->Rg->Prop}{s:Rg}{K:Frag}
end
end Att
namespace L2
open PySem PySem.Spec PyProof.Rows
theorem pB:∀{vs:List Oq}{ns:List Int},TX vs ns->aW (ns.map V.int) vs|_,_,.nil=>.nil|_,_,.cons n t h=>.cons ⟨t,rfl⟩ (pB h)
def HC(H:Hp):Prop:=∀b,H b=none\/∃o xs,H b=some (.frz o (.lst xs))
theorem Ci{P:Rw}{w:Ro}{K:Rj}{mg mb:Str->Option Oq}{CX:wA}{k:Nat}{fa a:xM}{fd:RD}{x:Str}{sp:Sp}{s₁:Rg}{vs:List Oq}{ns:List Int}(KX:K.In s₁.heap)(hns:s₁.heap.Ns Se mg)(hb:s₁.heap.Ns builtinsNs mb)(hbb:∀x:Str,x≠"__name__"->mb x=Tn x)(hlim:s₁.heap.NoLimit)(hg:s₁.gens=#[])(ha:s₁.heap.get? a=some {cls:=.type "list",data:=.seq vs.toArray})(hi:TX vs ns)(hl:ns.length<=RH)(hr:bX k callerA)(F:∀base:Ru,K.In base->base.Ns Se mg->aG P w K mg base CX k fa fd [x] sp)(hbind:∀(s:Rg) (u:Oq),BindsTo s fd ⟨[u],[]⟩ [(x,u)])(hsp:∀H:Hp,HC H->fX K H a (ns.map V.int)->sp [.ref a] H (λv _=>v=.bl true) λ_ _ _=>False)(hCX:∀H e s',CX [] H s₁ (λ_ _ _=>False) e s'->False):codeAny (Ry P w) callerA (.call (.ref fa) ⟨[.ref a],[]⟩) (λr s'=>r=.ok (.ret (.bool true))/\OldK s₁.heap s'.heap/\s'.os=s₁.os/\AllBare s'.gens) s₁:=by
 have rv:=pB hi;have lenV:=hi.length;have core:∀H:Hp,HC H->fX K H a (ns.map V.int)->p_ P w H s₁.heap->(∀b,H b≠none->b=a)->(H a≠none->K.lookup a=none)->codeAny (Ry P w) callerA (.call (.ref fa) ⟨[.ref a],[]⟩) (λr s'=>r=.ok (.ret (.bool true))/\OldK s₁.heap s'.heap/\s'.os=s₁.os/\AllBare s'.gens) s₁:=by
  intro H hO hS hok hA hK;have base_of:∀{b:xM}{o:Obj},s₁.heap.get? b=some o->H b=none->(vg s₁.heap H).get? b=some o:=λe n=>B8 e n;have noA:∀{b:xM}{o:Obj}{es:Array Ur}{ep:Nat},s₁.heap.get? b=some o->o.data=.dict es ep->H b=none:=fun{b o es ep}e d=>by cases q:H b with|none=>rfl|some u=>have e':b=a:=hA b (by rw[q];simp);subst e';rw[ha]at e;cases e;have d':Data.seq vs.toArray _=Data.dict es ep:=d;cases d'
  have nsK:∀{b:xM}{m:Str->Option Oq},s₁.heap.Ns b m->(vg s₁.heap H).Ns b m:=fun{b m}⟨o,es,ep,e,d,r⟩=>⟨o,es,ep,base_of e (noA e d),d,r⟩;have hKb:K.In (vg s₁.heap H):=λb o e=>base_of (KX b o e) (by cases q:H b with|none=>rfl|some u=>have e':b=a:=hA b (by rw[q];simp);subst e';rw[hK (by rw[q];simp)]at e;cases e);have hM:Mod K mg (vg s₁.heap H):=⟨hKb,nsK hns,⟨mb,nsK hb,hbb⟩,let⟨mc,h1,h2⟩:=hlim;⟨mc,nsK h1,h2⟩⟩;have e0:yh P w K mg (vg s₁.heap H) callerA [] s₁ H:=⟨rfl,hM,λb o e=>Fb e,Nat.le_of_eq (AJ _ _),trivial,λb hb=>absurd (show b∈([]:List xM) from hb) (by simp),hok,.of_eq hg⟩;refine codeAny_mono ((F _ hKb (nsK hns)).run callerA [] s₁ H ⟨[.ref a],[]⟩ [.ref a] [.ref a] _ _ hr e0 (hbind s₁ (.ref a)) (.cons rfl .nil) (hsp H hO hS)) λr s' h=>?_;cases r with|error e=>exact(hCX H e s' h).elim|ok fl=>cases fl with|next=>exact Tc h|brk=>exact Tc h|cont=>exact Tc h|ret u=>obtain⟨v,H',os,bare,un,hok',r',q⟩:=h;have q':v=.bl true:=q;subst q';obtain rfl:u=Value.bool true:=r';refine⟨rfl,OldK.of_keep λb o e=>?_,os,bare⟩;cases q:H b with|none=>exact un.keep b o e q (by intro z;exact absurd (show b∈([]:List xM) from z) (by simp)) (by simp)|some u=>
   rcases hO b with z|⟨ob,xs,z⟩;·rw[q]at z;cases z
   ·have z2:=un.frzs b ob _ z;obtain⟨e1,_⟩:=hok b _ z;obtain⟨e2,_⟩:=hok' b _ z2;rw[e]at e1;cases e1;exact e2
 cases hk:K.lookup a with|some o=>have e:=KX a o hk;rw[ha]at e;cases e;refine core (λ_=>none) (λ_=>.inl rfl) (.inr ⟨_,vs.toArray,_,hk,rfl,rfl,rfl,by rw[RV,lenV];exact hl,by simpa using rv⟩) (λb u z=>by have z':(none:Option HO)=some u:=z;cases z') (λb z=>absurd rfl z) λz=>absurd rfl z|none=>
  refine core (λb=>if b=a then some (.frz {cls:=.type "list",data:=.seq vs.toArray} (.lst (ns.map V.int))) else none) (λb=>?_) (.inl (.inr ⟨{cls:=.type "list",data:=.seq vs.toArray},if_pos rfl⟩)) (λb u z=>?_) (λb z=>?_) λ_=>hk
  ·by_cases hb:b=a;·exact .inr ⟨_,_,if_pos hb⟩
   ·exact .inl (if_neg hb)
  ·by_cases hb:b=a;·have z':=(if_pos hb).symm.trans z;cases z';subst hb;exact⟨ha,by rw[RQ];exact hl,vs,_,rv,ha⟩
   ·have z':=(if_neg hb).symm.trans z;cases z'
  ·by_cases hb:b=a;·exact hb
   ·exact absurd (if_neg hb) z
theorem walk_of{l:PySem.W.OpenLaw}{n k:Nat}{q:Rw}{loose:List Str}{XP:(Str->Option Oq)->Ru->Prop}{YP:Ro->Ru->Prop}{d:DefRec}{K:Params->Rj}{CX:Ro->wA}{sp:Ro->Sp}{x:Str}(hn:l.most=some n)(hn2:n<=RH)(hdf:d.params.defaults=[])(hr:bX k callerA)(hY:∀(w:Ro) (h:Ru),YP w h->(K w.params).In h)(F:∀(w:Ro) (mg:Str->Option Oq) (fa:xM) (h:Ru),(K w.params).In h->h.Ns Se mg->mg d.name=some (.ref fa)->∃fd:RD,(∀(s:Rg) (u:Oq),BindsTo s fd ⟨[u],[]⟩ [(x,u)])/\∀base:Ru,(K w.params).In base->base.Ns Se mg->aG l.prog w (K w.params) mg base (CX w) k fa fd [x] (sp w))(hsp:∀(w:Ro) (H:Hp) (a:xM) (ns:List Int),ns.length<=n->HC H->fX (K w.params) H a (ns.map V.int)->sp w [.ref a] H (λv _=>v=.bl true) λ_ _ _=>False)(hCX:∀(w:Ro) (H:Hp) (s:Rg) (e:Oq) (s':Rg),CX w [] H s (λ_ _ _=>False) e s'->False):PySem.W.WalkO q loose XP YP l.row.toRowW d [] (λf vs=>PySem.call f vs):=by refine Att.attach_call hn hdf λw s₀ s₁ mg mb fa o pm cd doc a vs ns G Y ho hd hcd hmg hobj hints hlen hg=>?_;have KX:=hY w _ Y;obtain⟨fd,hb,hF⟩:=F w mg fa _ KX G.T.g hmg;exact Ci KX G.T.g G.T.b G.T.builtins G.T.nolimit hg hobj hints (Sl hlen hn2) hr hF hb (λH hO hS=>hsp w H a ns hlen hO hS) λH e s'=>hCX w H s₁ e s'
abbrev ck:wA:=λ_ _ _ _ _ _=>False
abbrev E0:XK:=λ_ _ _=>False
theorem xB{X:Cx}:ml ck X E0:=λ_ _ _ _ _ _ _ h=>h.elim
structure wy (K:Rj) (x qual:Str) (st:Rx) (f:xM) (fd:RD):Prop where
 ex:∃(oc:Oq) (od:Option xM) (kV doc pm:Oq) (an:Option xM) (cdv ct:Oq) (osl:Array (Option Oq)),fd=SZ x qual (dY st) (cH st) (aj st) .none kV doc pm an cdv ct/\K.lookup f=some ⟨oc,od,.func fd,osl⟩/\UV K cdv qual=true
 kp:Ul K (.ref f)=true
section
variable{P:Rw}{w:Ro}{K:Rj}{mg:Str->Option Oq}{base:Ru}
theorem wy.ok{x qual:Str}{st:Rx}{f:xM}{fd:RD}{N ps:List Str}{k:Nat}{sp:Sp}(F:wy K x qual st f fd)(S:ay N ps (aj st))(len:∀vs H Q E,sp vs H Q E->vs.length=ps.length)(hbody:∀(cdv:Oq) (A:Rz) (outer:List Env) (s:Rg) (H:Hp) (vs:List V) (Q:VK) (E:XK),bX k (A.deeper (envOfC qual (aj st) s.heap.objs.size f cdv))->sp vs H Q E->∃t,ke (wR ck P w K mg base N qual (aj st) f cdv A outer s H E).nox (cH st) t/\t {nx:=λ_ H'=>Q .non H',rt:=Q} (i5 N vs) H):aG P w K mg base ck (k+1) f fd ps sp:=by obtain⟨oc,od,kV,doc,pm,an,cdv,ct,osl,rfl,lk,hcd⟩:=F.ex;refine Kv lk hcd S len λA outer s H vs Q E hr hsp=>?_;obtain⟨t,h,q⟩:=hbody cdv A outer s H vs Q E hr hsp;exact⟨t,h.nox,q⟩
theorem wy.binds{x qual:Str}{st:Rx}{f:xM}{fd:RD}{ps:List Str}(F:wy K x qual st f fd)(h:∀(kV doc pm:Oq) (an:Option xM) (cdv ct:Oq) (us:List Oq),us.length=ps.length->bindArgs (SZ x qual (dY st) (cH st) (aj st) .none kV doc pm an cdv ct) ⟨us,[]⟩=pure (ps.zip us)):ez K fd ps []:=by obtain⟨oc,od,kV,doc,pm,an,cdv,ct,osl,rfl,lk,hcd⟩:=F.ex;exact .all (h kV doc pm an cdv ct)
theorem mw{x qual:Str}{st:Rx}{f:xM}{oc:Oq}{od an:Option xM}{osl:Array (Option Oq)}{kV doc pm cdv ct:Oq}(l:K.lookup f=some ⟨oc,od,.func (SZ x qual (dY st) (cH st) (aj st) .none kV doc pm an cdv ct),osl⟩)(c:UV K cdv qual=true)(k:Ul K (.ref f)=true):wy K x qual st f (SZ x qual (dY st) (cH st) (aj st) .none kV doc pm an cdv ct):=⟨⟨oc,od,kV,doc,pm,an,cdv,ct,osl,rfl,l,c⟩,k⟩
end
theorem uw{n:Nat}(h:n<=1000):n<RH:=VY h (by decide)
section
variable{X:Cx}
end
theorem Ic{A B:Prop}(h:B):if false=true then A else B:=by rw[if_neg Ug];exact h
theorem Ie{A B:Prop}(h:A):if true=true then A else B:=by rw[if_pos rfl];exact h
def ao(H H':Hp):Prop:=∀b o,H b=some o->H' b=some o
theorem ao.refl(H:Hp):ao H H:=λ_ _ h=>h
theorem ao.trans{H H1 H2:Hp}(a:ao H H1)(b:ao H1 H2):ao H H2:=λc o h=>b c o (a c o h)
theorem ao.free{H H':Hp}(e:ao H H'){l:xM}(h:H' l=Option.none):H l=Option.none:=by cases q:H l with|none=>rfl|some o=>rw[e l o q]at h;cases h
theorem ao.seq{K:Rj}{H H':Hp}{a:xM}{xs:List V}(e:ao H H')(h:fX K H a xs):fX K H' a xs:=by
 rcases h with (h|⟨o,h⟩)|h;·exact .inl (.inl (e _ _ h))
 ·exact .inl (.inr ⟨o,e _ _ h⟩)
 ·exact .inr h
end L2
set_option maxHeartbeats 4000000
namespace L2
open PySem PySem.Spec PyProof.Rows
def Bt(n:Nat)(i:Int):Prop:=i.natAbs<2^n
theorem Bt.mono{m n:Nat}{i:Int}(h:Bt m i)(hm:m<=n):Bt n i:=So h (UX (by decide) hm)
theorem Bt.log{m:Nat}{i:Int}(h:Bt m i)(hm:0<m):i.natAbs.log2<m:=by
 unfold Bt at h;rcases Nat.eq_zero_or_pos i.natAbs with h0|hp;·rw[h0];exact hm
 ·exact(Nat.log2_lt (by lia)).mpr h
theorem Bt.bits{m:Nat}{i:Int}(h:Bt m i)(hm:0<m):Builtin.Int.intBits i<=m:=by
 unfold Builtin.Int.intBits;split;·exact Tq _
 ·exact h.log hm
theorem Bt.of_le{m:Nat}{i:Int}{j:Int}(h:Bt m j)(e:i.natAbs<=j.natAbs):Bt m i:=VY e h
section
variable{X:Cx}
def GI(i j:Int):Prop:=Bt 4000 i/\Bt 4000 j
theorem Fu:iW X (Sx .Mult) (rI GI λi j=>.int (i*j)):=K8 λ_ _ _ _ _ _ _ hc q=>mul_int q (.of_bits (Sl (hc.1.bits (by decide)) (by decide)) (Sl (hc.2.bits (by decide)) (by decide)))
def GH(i j:Int):Prop:=j≠0/\Bt 8000 j
theorem CN:iW X (Sx .FloorDiv) (rI GH λi j=>.int (i.fdiv j)):=K8 λ_ _ _ _ _ _ _ hc q=>floordiv_int hc.1 q (.inl (PyProof.noPylong_of_log2 (Nat.lt_trans (hc.2.log (by decide)) (by decide))))
theorem Jh:iW X (SD .Is) (λx y H Q=>∃b c,x=.bl b/\y=.bl c/\Q (.bl (b==c)) H):=by intro pins s σ H x y v u Q I rx ry h;obtain⟨b,c,rfl,rfl,q⟩:=h;cases rx;cases ry;exact is_bool ⟨.bl _,H,I,rfl,q⟩
end
def pF(H H':Hp):Prop:=∀a o,H a=some o->(∀xs,o≠.lst xs)->(∀ob xs,o≠.frz ob (.lst xs))->H' a=some o
theorem pF.trans{H H1 H2:Hp}(a:pF H H1)(b:pF H1 H2):pF H H2:=λc o h n m=>b c o (a c o h n m) n m
theorem ao.ts{H H':Hp}(h:ao H H'):pF H H':=λa o e _ _=>h a o e
theorem pF.tup{K:Rj}{H H':Hp}(h:pF H H'){a:xM}{xs:List V}(q:ff K H a xs):ff K H' a xs:=by
 rcases q with (q|⟨o,q⟩)|q;·exact .inl (.inl (h _ _ q (λ_ e=>nomatch e) (λ_ _ e=>nomatch e)))
 ·exact .inl (.inr ⟨o,h _ _ q (λ_ e=>nomatch e) (λ_ _ e=>nomatch e)⟩)
 ·exact .inr q
section
variable{X:Cx}
end
structure dO (K:Rj) (mg:Str->Option Oq) (x:Str) (st:Rx) (f:xM) (fd:RD) (ps:List Str):Prop where
 F:wy K x x st f fd
 m:mg x=some (.ref f)b:ez K fd ps []
theorem HZ{K:Rj}{mg:Str->Option Oq}{h:Ru}{x:Str}{st:Rx}{f:xM}{ps:List Str}{oc:Oq}{od an:Option xM}{osl:Array (Option Oq)}{kV doc pm cdv ct:Oq}(X:K.In h)(G:h.Ns Se mg)(a:Tt K Se x=some (some (.ref f)))(l:K.lookup f=some ⟨oc,od,.func (SZ x x (dY st) (cH st) (aj st) .none kV doc pm an cdv ct),osl⟩)(c:UV K cdv x=true)(k:Ul K (.ref f)=true)(hb:∀(kV doc pm:Oq) (an:Option xM) (cdv ct:Oq) (us:List Oq),us.length=ps.length->bindArgs (SZ x x (dY st) (cH st) (aj st) .none kV doc pm an cdv ct) ⟨us,[]⟩=pure (ps.zip us)):dO K mg x st f (SZ x x (dY st) (cH st) (aj st) .none kV doc pm an cdv ct) ps:=⟨mw l c k,TY X G a,(mw l c k).binds hb⟩
theorem Fy{X:Cx}{x:Str}{st:Rx}{f:xM}{fd:RD}{ps:List Str}{k:Nat}{sp:Sp}{e:Rl}{es:List Rl}{t:TA}{p pos:Pos}(h:dO X.K X.mg x st f fd ps)(G:aG X.prog X.w X.K X.mg X.base ck k f fd ps sp)(hr:bX k X.A)(ha:PA X (e::es) t)(hg:Gl X x:=by rfl)(hdb:(x==("__debug__":Str))=false:=by decide)(he:RB (e::es) X.env=(false,RC e X.env)::RB es X.env:=by rfl)(hpl:(RP pos (RB es X.env)).any (·.1)=false:=by rfl):PE X (.Call (.Name x p) (e::es) [] pos) (sx sp [] E0 t):=Fz G hr hg h.m h.F.kp h.b .nil xB ha hdb he hpl
theorem ao.new{H:Hp}{p:xM}{o:HO}(h:H p=none):ao H (bg H p o):=λb u e=>by rw[av (fJ e h)];exact e
theorem ao.tup{K:Rj}{H H':Hp}{a:xM}{xs:List V}(e:ao H H')(h:ff K H a xs):ff K H' a xs:=e.ts.tup h
def gM(t b:Int):Int×Int:=if b<0 then(t.fdiv (-(RN t b:Int)),b.fdiv (-(RN t b:Int))) else(t.fdiv (RN t b:Int),b.fdiv (RN t b:Int))
theorem B5(x y:Int):RN y (x.fmod y)=RN x y:=by rw[Int.fmod_def,Int.gcd_sub_mul_left_right,Int.gcd_comm]
theorem pM(x:Int){y:Int}(h:y≠0):(x.fmod y).natAbs<y.natAbs:=by
 rcases Int.lt_or_gt_of_ne h with h|h
 ·have h1:x.fmod y=-((-x).fmod (-y)):=by have:=Int.neg_fmod_neg x y;lia
  have h2:=Int.fmod_nonneg_of_pos (-x) (b:=-y) (by lia);have h3:=Int.fmod_lt_of_pos (-x) (b:=-y) (by lia);lia
 ·have h2:=Int.fmod_nonneg_of_pos x h;have h3:=Int.fmod_lt_of_pos x h;lia
theorem zG{t b:Int}(h:b≠0):(0:Int)<RN t b:=by have:=Int.gcd_pos_of_ne_zero_right t h;lia
theorem ud{t b:Int}(h:b≠0):∃d:Int,d.natAbs=RN t b/\d≠0/\(gM t b).1*d=t/\(gM t b).2*d=b/\0<(gM t b).2:=by
 have hg:=zG (t:=t) h;have d1:(RN t b:Int)∣t:=Int.gcd_dvd_left ..;have d2:(RN t b:Int)∣b:=Int.gcd_dvd_right ..;unfold gM;split
 ·rename_i hb;have e1:t.fdiv (-(RN t b:Int))*(-(RN t b:Int))=t:=Vu (Int.neg_dvd.mpr d1);have e2:b.fdiv (-(RN t b:Int))*(-(RN t b:Int))=b:=Vu (Int.neg_dvd.mpr d2);refine⟨-(RN t b:Int),by lia,by lia,e1,e2,?_⟩;show 0<b.fdiv (-(RN t b:Int));have h3:b.fdiv (-(RN t b:Int))*(RN t b:Int)=-b:=by rw[Int.mul_neg]at e2;lia
  exact Int.pos_of_mul_pos_left (by lia) (by lia) (b:=(RN t b:Int))
 ·rename_i hb;have e1:t.fdiv (RN t b:Int)*(RN t b:Int)=t:=Vu d1;have e2:b.fdiv (RN t b:Int)*(RN t b:Int)=b:=Vu d2;refine⟨(RN t b:Int),by lia,by lia,e1,e2,?_⟩;show 0<b.fdiv (RN t b:Int);exact Int.pos_of_mul_pos_left (by lia) (by lia) (b:=(RN t b:Int))
theorem Co{t b:Int}(h:b≠0):RN (gM t b).1 (gM t b).2=1:=by
 obtain⟨d,h1,h2,h3,h4,h5⟩:=ud (t:=t) h;have e:RN ((gM t b).1*d) ((gM t b).2*d)=RN (gM t b).1 (gM t b).2*d.natAbs:=Int.gcd_mul_right ..;rw[h3,h4,<-h1]at e;have hd:0<d.natAbs:=by lia
 exact(Nat.eq_of_mul_eq_mul_right hd (by rw[Nat.one_mul];exact e)).symm
theorem HY{t b:Int}(h:b≠0){n:Nat}(hb:Bt n b):Bt n (RN t b:Int):=by refine hb.of_le ?_;have h1:=Nat.le_of_dvd (show 0<b.natAbs by lia) (Int.ofNat_dvd.mp (by rw[Int.dvd_natAbs];exact Int.gcd_dvd_right t b));lia
mutual
def cnt:Rh->Nat|.tuple ds=>1+mv ds|.str _=>0|_=>1
def mv:List Rh->Nat|[]=>0|d::ds=>cnt d+mv ds
end
mutual
def rq:Rh->Bool|.tuple ds=>js ds|.str _=>false|.list _=>false|.dict _=>false|_=>true
def js:List Rh->Bool|[]=>true|d::ds=>rq d&&js ds
end
theorem sV{a:Int}(h:a.natAbs.log2<1920):(Rm (toString a)).length<=1921:=by have e:=int_text_length_le (k:=1920) (by decide) h;rw[PySem.ofString_length];lia
theorem yR(x:Str)(r:List Str):piled (x::r)=x.length+2+piled r:=by simp[piled]
theorem Bh(ts:List Str):(tupleText ts).length<=piled ts+3:=by
 unfold tupleText;rw[strLen_append,strLen_append];have h1:(("(":Str)).length=1:=by decide
 have h2:(Rm (if (ts.length==1)=true then",)"else")")).length<=2:=by split<;>decide
 have h3:(Ss ", " ts).length<=piled ts:=by cases ts with|nil=>show(Ss ", " []).length<=0;decide|cons x r=>have:=join_length_add (x::r) (by simp);lia
 lia
mutual
theorem uu:∀{d:Rh},rq d=true->d.showable=true->d.shown.length+2<=2000*cnt d
 |.none,_,_=>by show(Rm "None").length+2<=2000*1;decide|.bool b,_,_=>by
  cases b;·show(Rm "False").length+2<=2000*1;decide
  ·show(Rm "True").length+2<=2000*1;decide|.int i,_,hs=>by simp only[PyData.showable,decide_eq_true_eq]at hs;have:=sV hs;show(Rm (toString i)).length+2<=2000*1;lia|.tuple ds,hn,hs=>by simp only[PyData.showable]at hs;simp only[rq]at hn;have h1:=oC hn hs;have h2:=Bh (Vv ds);simp only[PyData.shown,cnt];lia|.str _,hn,_=>by simp[rq]at hn|.list _,hn,_=>by simp[rq]at hn|.dict _,hn,_=>by simp[rq]at hn
theorem oC:∀{ds:List Rh},js ds=true->Vw ds=true->piled (Vv ds)<=2000*mv ds|[],_,_=>by simp[Vv,piled]|d::ds,hn,hs=>by simp only[js,Sr]at hn;simp only[Vw,Sr]at hs;have h1:=uu hn.1 hs.1;have h2:=oC hn.2 hs.2;simp only[Vv,mv,yR];lia
end
def jP(env:Env):List (Str×SM)->List (Str×xM)->List (Str×xM)|[],cs=>cs|(n,k)::r,cs=>jP env r (if k==.free then(n,(env.cells.lookup n).getD 0)::cs else cs)
theorem mX{env:Env}:∀(names:List (Str×SM)) (cs:List (Str×xM)),(∀y∈names,y.2=.free->∃c,env.cells.lookup y.1=some c)->(forIn names cs (fun(x:Str×SM) (r:List (Str×xM))=>(if (x.2==SW)=true then do let a<-cellOf env x.1;pure (UM ((x.1,a)::r)) else pure (UM r):Sem (ForInStep (List (Str×xM))))):Sem (List (Str×xM)))=pure (jP env names cs)
 |[],cs,_=>rfl|(n,k)::r,cs,h=>by
  rw[List.forIn_cons];have ih:=λcs'=>mX (env:=env) r cs' (λy hy=>h y (SS _ hy));by_cases hk:(k==SW)=true
  ·have hk':k=.free:=by simpa using hk
   obtain⟨c,hc⟩:=h (n,k) TN hk';have e:cellOf env n=pure c:=by unfold cellOf;rw[hc]
   simp only[hk,if_true,e,pure_bind,jP,hc,Vx];exact ih _
  ·have hk':(k==SW)=false:=by simpa using hk
   simp only[hk',Vy,if_false,pure_bind,jP];exact ih _
theorem yr{scope:RU}{env:Env}(h:∀y∈scope.names,y.2=.free->∃c,env.cells.lookup y.1=some c):closureFor scope env=pure (jP env scope.names []):=by have e:=mX (env:=env) scope.names [] h;unfold closureFor;simp only[pure_bind,bind_pure]at e⊢;exact e
theorem qM{env:Env}:∀(names:List (Str×SM)) (cs:List (Str×xM)) (x:Str) (c:xM),(∀y∈names,y.2=.free->∃c,env.cells.lookup y.1=some c)->(∀x c,cs.lookup x=some c->env.cells.lookup x=some c)->(jP env names cs).lookup x=some c->env.cells.lookup x=some c
 |[],cs,x,c,_,hs,h=>hs x c h|(n,k)::r,cs,x,c,hn,hs,h=>by
  refine qM r _ x c (λy hy=>hn y (SS _ hy)) (λx' c' e=>?_) h;by_cases hk:(k==SW)=true
  ·rw[if_pos hk]at e;obtain⟨c0,hc⟩:=hn (n,k) TN (by simpa using hk)
   rw[Sm]at e;cases hx:x'==n with|true=>
    rw[hx]at e;have e1:x'=n:=by simpa using hx
    subst e1;simp only[hc,Vx,Us]at e;rw[<-e];exact hc|false=>rw[hx]at e;exact hs x' c' e
  ·rw[if_neg hk]at e;exact hs x' c' e
theorem wM{env:Env}:∀(names:List (Str×SM)) (cs:List (Str×xM)) (x:Str),((∃y∈names,y.1=x/\y.2=.free)\/∃c,cs.lookup x=some c)->∃c,(jP env names cs).lookup x=some c
 |[],cs,x,h=>by
  rcases h with⟨y,hy,_⟩|h;·cases hy
  ·exact h|(n,k)::r,cs,x,h=>by
  refine wM r _ x ?_;by_cases hk:(k==SW)=true;·rw[if_pos hk,Sm];cases hx:x==n with|true=>exact .inr ⟨_,rfl⟩|false=>
   rcases h with⟨y,hy,e1,e2⟩|h
   ·rcases Re hy with z|z;·subst z;subst e1;simp at hx
    ·exact .inl ⟨y,z,e1,e2⟩
   ·exact .inr h
  ·rw[if_neg hk];rcases h with⟨y,hy,e1,e2⟩|h
   ·rcases Re hy with z|z;·subst z;exact absurd (by simpa using e2) hk
    ·exact .inl ⟨y,z,e1,e2⟩
   ·exact .inr h
theorem kg{env:Env}:∀{names:List (Str×SM)}{x:Str},names.lookup x=some .free->(names.map fun(n,k)=>if (k==SW&&env.scope.kind==.function&&env.kindOf n==some .cell) then(n,Uz) else(n,k)).lookup x≠some .local|[],x,h=>by simp at h|(n,k)::r,x,h=>by rw[Sb];cases hx:x==n with|true=>simp only[hx,Sm]at h;cases h;show Sg x ((if (SW==SW&&env.scope.kind==.function&&env.kindOf n==some .cell)=true then(n,Uz) else(n,SW))::_)≠_;split<;>simp[Sm,hx]|false=>
 simp only[hx,Sm]at h;have ih:=@kg env r x h;have e2:∀(l:List (Str×SM)),((if (k==SW&&env.scope.kind==.function&&env.kindOf n==some .cell)=true then(n,Uz) else(n,k))::l).lookup x=l.lookup x:=λl=>by split<;>simp[Sm,hx]
 simp only[e2];exact ih
def Bs(X:Cx)(ifs:List Rl)(t:TT):Prop:=∀(pins:List (xM×Obj)) (s:Rg) (σ:L2.St) (H:Hp) (Q:Bool->Hp->Prop),aI X pins σ H s->t σ H Q->Rr (Ry X.prog X.w) X.A (forIn ifs true λc r=>if r=true then do let ok<-isTrue c X.env (RC c X.env);pure (UM ok) else pure (UM r)) (TP X pins σ Q) X.xe s
theorem zQ{X:Cx}:Bs X [] (λ_ H Q=>Q true H):=λ_ _ _ H _ I h=>wpAny_tests_nil ⟨H,I,h⟩
theorem FR{X:Cx}{c:Rl}{t:TT}(h:PT X c t):Bs X [c] t:=λpins s σ H Q I q=>wpAny_tests_one (h pins s σ H Q I q)
abbrev Ki:Oq->Rg->Prop:=λ_ _=>False
def HL(prog:Rw)(w:Ro)(A:Rz)(elt tg:Rl)(ifs:List Rl)(env:Env)(it acc:Oq)(onward:Rg->Prop)(v:Oq)(u:Rg):Prop:=Rr (Ry prog w) A (Vk tg it v) (λ_ u1=>Rr (Ry prog w) A (Td tg env v) (λ_ u2=>Rr (Ry prog w) A (forIn ifs true λc r=>if r=true then do let ok<-isTrue c env (RC c env);pure (UM ok) else pure (UM r)) (λok u3=>if ok=true then Rr (Ry prog w) A (RC elt env) (λx u4=>Rr (Ry prog w) A (call (.builtin "list.append") [acc,x]) (λ_ u5=>onward u5) Ki u4) Ki u3 else onward u3) Ki u2) Ki u1) Ki u
theorem uY{prog:Rw}{w:Ro}{A:Rz}{R:Result->Rg->Prop}{elt tg iter:Rl}{ifs:List Rl}{scope:RU}{pos:Pos}{it acc:Oq}{env:Env}(J:Nat->Rg->Prop)(turn:∀n u,J n u->Rr (Ry prog w) A (pyNext it) (λr u1=>(r=none->R (.ok .next) u1)/\∀v,r=some v->HL prog w A elt tg ifs env it acc (λu2=>∃m,m<n/\J m u2) v u1) Ki u){n0:Nat}{u0:Rg}(i5:J n0 u0):codeAny (Ry prog w) A (.compLoop (.ListComp elt [⟨tg,iter,ifs,0⟩] scope pos) 0 it acc env) R u0:=by refine codeAny_loop rfl J (λn u ju=>?_) n0 i5;show Rr _ A ((compTurn (.ListComp elt [⟨tg,iter,ifs,0⟩] scope pos) 0 it acc env).onRaise _) _ _ u;refine wpAny_noted ?_;rw[compTurn_list];refine Rq (wpAny_standAt (Rq (Ta (turn n u ju) (λr u1 k1=>?_) λ_ _ z=>z.elim)));cases r with|none=>exact RG (k1.1 rfl)|some v=>refine Rq (Ta (k1.2 v rfl) (λ_ u2 k2=>Rq (Ta k2 (λ_ u3 k3=>Rq (Ta k3 (λok u4 k4=>?_) λ_ _ z=>z.elim)) λ_ _ z=>z.elim)) λ_ _ z=>z.elim);cases ok with|false=>rw[if_neg Ug]at k4;exact RG ⟨rfl,k4⟩|true=>rw[if_pos rfl]at k4;refine Rq (Rq (Ta k4 (λx u5 k5=>Rq (Ta k5 (λ_ u6 k6=>?_) λ_ _ z=>z.elim)) λ_ _ z=>z.elim));exact RG (RG ⟨rfl,k6⟩)
def jD(cp:List (Nat×Str))(nT:Nat)(σ:L2.St):L2.St:=cp.map (λp=>(σ[p.1]?).join)++RF nT none
structure Ai (cp:List (Nat×Str)) (nT:Nat) (wi:TI) (g:TG) (tc:TT) (te:TE) (σ:L2.St) (H:Hp) (Q:VK):Prop where go:wi σ H λJ H1=>∀l,H1 l=none->∃W:Nat->Nat->L2.St->Hp->Prop,(∃m,W 0 m (jD cp nT σ) (bg H1 l (.lst [])))/\∀i m σ' H',W i m σ' H'->(J.stop i H'/\Q (.ref l) H')\/(J.go i H'/\∃N:L2.St->Hp->Prop,(∀σ2 H2,N σ2 H2->∃m',m'<m/\W (i+1) m' σ2 H2)/\∀x H2,J.yld i H' x H2->g x σ' H2 λσ2 H3=>tc σ2 H3 λb H4=>if b=true then te σ2 H4 λv H5=>∃ys,H5 l=some (.lst ys)/\ys.length<RH/\N σ2 (bg H5 l (.lst (ys++[v]))) else N σ2 H4)
section
variable{X:Cx}
def Dr(K:Rj):R2:=λx y H Q=>∃a b xs ys,x=.ref a/\y=.ref b/\ff K H a xs/\ff K H b ys/\xs.length+ys.length<=RH/\∀p H',ao H H'->ff K H' p (xs++ys)->Q (.ref p) H'
theorem Fk:iW X (Sx .Add) (Dr X.K):=by
 intro pins s σ H x y v u Q I rx ry h;obtain⟨a,b,xs,ys,rfl,rfl,ha,hb,hz,q⟩:=h;cases rx;cases ry;by_cases hx:xs=[]
 ·obtain⟨i1,r1,p1,_⟩:=I.tuple ha;obtain⟨i2,r2,p2,_⟩:=I.tuple hb;obtain⟨m,F⟩:=I.fr;have e1:i1=[]:=by subst hx;cases r1;rfl
  refine add_tuples F (Cz (g:=X.base)) p1 p2 (λ_=>?_) (λz1 _=>absurd e1 z1) (λz1 _ _ _ _=>absurd e1 z1) (by rw[<-r1.length,<-r2.length];exact hz);exact⟨.ref b,H,I,rfl,q b H (ao.refl H) (by rw[hx];exact hb)⟩
 ·exact Fm pins s σ H (.ref a) (.ref b) _ _ Q I rfl rfl ⟨a,b,xs,ys,rfl,rfl,ha,hb,hx,hz,λz=>q a H (ao.refl H) (by rw[z,SQ];exact ha),λ_ p hp=>q p _ (ao.new hp) (ff.of au)⟩
theorem j6{x:V}{us:List Oq}(r:aW [x] us):∃u,us=[u]/\bW x u:=by cases r with|cons p p'=>cases p';exact⟨_,rfl,p⟩
theorem BI{k:Nat}(hr:bX k X.A):dN X (.builtin "sum") (λxs H Q=>∃(l:xM) (ns:List Int),xs=[.ref l]/\fX X.K H l (ns.map V.int)/\Q (.int ns.sum) H):=by
 intro pins s σ H xs us Q I r h;obtain⟨l,ns,rfl,hs,q⟩:=h;obtain⟨u,rfl,ru⟩:=j6 r;cases ru;obtain⟨its,rv,p,hz⟩:=I.list hs;have hi:TX its ns:=qZ rv;obtain⟨ys,ey⟩:=hi.allInts.items;have hl:=p.isList;rw[ey]at hl;refine PySem.sum_intListG hr.hd hl λh' tk t' hk=>?_;have e:preSum (numAt ys) ys.size=ns.sum:=by have e2:=nums_intItems (xs:=ys);rw[<-ey]at e2;have e3:=hi.numsOf;rw[preSum_eq,List.take_of_length_le (by simp)];rw[show its.toArray.toList=its from rfl,e3]at e2;rw[e2]
 exact⟨.int ns.sum,H,I.kept hk,⟨t',by rw[e]⟩,q⟩
theorem wN{prog:Rw}{w:Ro}{A:Rz}{E:Oq->Rg->Prop}{s:Rg}{t:xM}{vs:List Oq}{Q:List Oq->Rg->Prop}(ht:IsTup s.heap t vs.toArray)(h:Q vs {s with heap:=(s.heap.push (seqObj "list" #[] 0)).update s.heap.objs.size (Uq (·++vs.toArray))})(hsz:vs.length<=RH):Rr (Ry prog w) A (collect (.ref t)) Q E s:=by obtain⟨o,ho,hc,n,hd⟩:=id ht;unfold collect;refine Rq (wpAny_runValue (codeAny_builtin entry_proto_collect' ?_));show Rr _ _ (do again (.builtin "list.__iadd__" ⟨[<-newList [],.ref t],[]⟩)) _ _ s;refine Rq (wpAny_newList (RG ⟨Code.quiet_builtin _ (by decide+kernel),?_⟩));refine codeAny_builtin entry_list_iadd' ?_;show Rr _ _ (Wp (.ref s.heap.objs.size) (.ref t) (.ref s.heap.objs.size)) _ _ {s with heap:=s.heap.push (seqObj "list" #[] 0)};unfold Wp;have ho':(s.heap.push (seqObj "list" #[] 0)).get? t=some o:=Sf _ ho;refine Rq (wpAny_typeOf (T:="tuple") ⟨o,ho',hc⟩ ?_);rw[if_pos (by rw[show(Value.type "tuple"==Value.type "tuple")=true from rfl,Bool.or_true])];refine Rq (listItems_at ho' hd ?_);refine Rq (listItems_at (xs:=#[]) (n:=0) (SA _ rfl) rfl ?_);rw[if_neg (by simp)];refine Rq (listUpdate_at (xs:=#[]) (n:=0) (SA _ rfl) rfl ?_ (Tq _) (by show(#[]++vs.toArray).size<=RH+1;simp only[Array.size_append,RV,List.length_nil];lia));refine RG ?_;show Rr (Ry prog w) A (load s.heap.objs.size>>=λo=>match o.data with|.seq xs _=>pure xs.toList|_=>unsupported "internal:collect") Q E {s with heap:=(s.heap.push (seqObj "list" #[] 0)).update s.heap.objs.size (Uq (·++vs.toArray))};refine Rq (wpAny_load (get?_update_seq (SA _ rfl) _) ?_);show Rr _ _ (pure ((#[]:Array Oq)++vs.toArray).toList) Q E _;rw[show((#[]:Array Oq)++vs.toArray).toList=vs by simp];exact RG h
theorem yZ{prog:Rw}{w:Ro}{A:Rz}{E:Oq->Rg->Prop}{s:Rg}{t:xM}{vs:List Oq}{ns:List Int}{Q:Oq->Rg->Prop}(ht:IsTup s.heap t vs.toArray)(hI:TX vs ns)(h64:vs.length<64)(h:∀(out:Array Oq) (ns':List Int),TX out.toList ns'->ns'.Perm ns->ns'.Pairwise (·<=·)->Q (.ref (s.heap.objs.size+1)) {s with heap:=sortedAll s.heap vs out}):Rr (Ry prog w) A (call (.builtin "sorted") [.ref t]) Q E s:=by
 refine Calls.call_function_entry kind_sorted plain_sorted entry_sorted (args_sorted1 _) ?_;unfold Builtin.«sorted»;refine Rq (m:=checkCount "sorted" 1 1 _) (RG ?_);refine Rq (wN ht ?_ (Sl (Ut h64) (by decide)));have z:((s.heap.push (seqObj "list" #[] 0)).update s.heap.objs.size (Uq (·++vs.toArray))).objs.size=s.heap.objs.size+1:=by rw[Heap.size_update,size_push']
 have o:(((s.heap.push (seqObj "list" #[] 0)).update s.heap.objs.size (Uq (·++vs.toArray))).push (seqObj "list" vs.toArray 0)).get? (s.heap.objs.size+1)=some (seqObj "list" vs.toArray 0):=by rw[<-z];exact SA _ rfl
 refine Rq (wpAny_newList ?_);show Rr _ _ _ _ _ {s with heap:=((s.heap.push (seqObj "list" #[] 0)).update s.heap.objs.size (Uq (·++vs.toArray))).push (seqObj "list" vs.toArray 0)};rw[z];refine Rq (wpAny_holding (Ux slot_list_sort ⟨_,o,rfl⟩ entry_list_sort (list_sort_tree o hI h64 λout ns' b1 b2 b3=>⟨_,rfl,?_⟩) (args_list_sort _)));exact RG ⟨_,rfl,h out ns' b1 b2 b3⟩
theorem wJ:dN X (.builtin "sorted") (λxs H Q=>∃(a:xM) (ns:List Int),xs=[.ref a]/\ff X.K H a (ns.map V.int)/\ns.length<64/\∀(l:xM) (ns':List Int) (H':Hp),ao H H'->H l=none->H' l=some (.lst (ns'.map V.int))->ns'.Perm ns->ns'.Pairwise (·<=·)->Q (.ref l) H'):=by
 intro pins s σ H xs us Q I r h;obtain⟨a,ns,rfl,hs,h64,q⟩:=h;obtain⟨u,rfl,ru⟩:=j6 r;cases ru;obtain⟨its,rv,p,hz⟩:=I.tuple hs;have hl:=rv.length;rw[RQ]at hl;refine yZ p (qZ rv) (by lia) λout ns' a1 a2 a3=>?_;obtain⟨e,he⟩:=sortedAll_at s.heap its out;have hf:H (s.heap.objs.size+1)=none:=I.hok.fresh (Nat.le_succ _);refine⟨.ref (s.heap.objs.size+1),bg H (s.heap.objs.size+1) (.lst (ns'.map V.int)),I.laid (t':=s.toks) (λ_ _=>sortedAll_old) (Nat.le_succ _) ⟨?_,out.toList,e,pB a1,?_⟩,rfl,q _ ns' _ (ao.new hf) hf au a2 a3⟩;·rw[RQ,a2.length_eq];exact Sl (Ut h64) (by decide)
 ·simpa[seqObj]using he
end
section
variable{X:Cx}
end
theorem A_{e:Rl}{es:List Rl}{env:Env}(h:TF e=false):RB (e::es) env=(false,RC e env)::RB es env:=by cases e<;>first|rfl|cases h
theorem nV{X:Cx}{e:Rl}{es:List Rl}{te:TE}{t:TA}(ha:PE X e te)(hr:PA X es t)(h:TF e=false:=by rfl):PA X (e::es) (p5 te t):=nU ha hr (A_ h)
def Aj:List (Int×Int)->TA|[]=>DZ|p::r=>p5 (LS (p5 (tC (.int p.1)) (p5 (tC (.int p.2)) DZ))) (Aj r)
@[irreducible]def M_(ps:List (Int×Int)):TA:=Aj ps
structure l6 where
 one:Int
 other:Int
 top:Int
 bot:Int
 worth:Int
structure aO where
 things:Int
 ties:List l6
 pat:List Int
 asks:Int
structure l6.Ok (n:Int) (t:l6):Prop where
 o0:0<=t.one
 o1:t.one<t.other
 o2:t.other<n
 c0:0<=t.top
 c1:t.top<=t.bot
 b0:1<=t.bot
 b1:t.bot<=100
 w0:0<=t.worth
 w1:t.worth<=1000
 cop:RN t.top t.bot=1
structure aO.Ok (w:aO):Prop where
 t0:0<=w.things
 t1:w.things<=12
 ties:∀t∈w.ties,t.Ok w.things
 len:w.ties.length<=16
 pl:(w.pat.length:Int)=w.things
 pat:∀p∈w.pat,0<=p/\p<=20
 a0:0<=w.asks
 a1:w.asks<=40
def Kl(K:Rj)(H:Hp)(v:V)(t:l6):Prop:=∃p q,v=.ref p/\ff K H p [.int t.one,.int t.other,.ref q,.int t.worth]/\ff K H q [.int t.top,.int t.bot]
inductive uO (K:Rj) (H:Hp):List V->List l6->Prop|nil:uO K H [] []|cons{v vs t ts}:Kl K H v t->uO K H vs ts->uO K H (v::vs) (t::ts)
structure Nq (K:Rj) (H:Hp) (v:V) (w:aO):Prop where ex:∃a b c ts,v=.ref a/\ff K H a [.int w.things,.ref b,.ref c,.int w.asks]/\ff K H b ts/\uO K H ts w.ties/\ff K H c (w.pat.map V.int)
section
variable{K:Rj}{H H':Hp}
end
theorem yI{t b:Int}(hb:0<b)(h0:0<=t)(h1:t<=b)(h2:b<=100):0<=(gM t b).1/\(gM t b).1<=(gM t b).2/\1<=(gM t b).2/\(gM t b).2<=100:=by
 obtain⟨d,e1,e2,e3,e4,e5⟩:=ud (t:=t) (b:=b) (by lia);generalize (gM t b).1=x at*;generalize (gM t b).2=y at*;have dp:0<d:=by
  rcases Int.lt_or_gt_of_ne e2 with z|z;·exfalso;have:y*d<0:=Int.mul_neg_of_pos_of_neg e5 z;lia
  ·exact z
 have x0:0<=x:=by
  rcases Int.lt_or_le x 0 with z|z;·have:x*d<0:=Int.mul_neg_of_neg_of_pos z dp;lia
  ·exact z
 have xy:x<=y:=by
  rcases Int.lt_or_le y x with z|z;·have:y*d<x*d:=Int.mul_lt_mul_of_pos_right z dp;lia
  ·exact z
 have yb:y<=y*d:=by have:=Int.mul_le_mul_of_nonneg_left (show(1:Int)<=d by lia) (show 0<=y by lia);lia
 exact⟨x0,xy,by lia,by lia⟩
inductive p8{α β:Type}(R:α->β->Prop):List α->List β->Prop|nil:p8 R [] []|cons{a b as bs}:R a b->p8 R as bs->p8 R (a::as) (b::bs)
namespace p8
variable{α β:Type}{R S:α->β->Prop}
theorem mono(h:∀a b,R a b->S a b):∀{as:List α}{bs:List β},p8 R as bs->p8 S as bs|_,_,.nil=>.nil|_,_,.cons x r=>.cons (h _ _ x) (mono h r)
theorem len:∀{as:List α}{bs:List β},p8 R as bs->as.length=bs.length|_,_,.nil=>rfl|_,_,.cons _ r=>by simp[len r]
theorem snoc{a:α}{b:β}(h:R a b):∀{as:List α}{bs:List β},p8 R as bs->p8 R (as++[a]) (bs++[b])|_,_,.nil=>.cons h .nil|_,_,.cons x r=>.cons x (snoc h r)
theorem get:∀{as:List α}{bs:List β}{i:Nat}{b:β},p8 R as bs->bs[i]?=some b->∃a,as[i]?=some a/\R a b|_,_,_,_,.nil,e=>by simp at e|_,_,0,_,.cons x _,e=>by simp at e;subst e;exact⟨_,rfl,x⟩|_,_,i+1,b,.cons _ r,e=>by obtain⟨v,h1,h2⟩:=get (i:=i) (b:=b) r (by simpa using e);exact⟨v,by simpa using h1,h2⟩
end p8
section
variable{K:Rj}{a l:xM}{xs:List V}{g:TG}{tc:TT}{te:TE}{Q:VK}{σ:L2.St}{H:Hp}{α β:Type}{us:List α}{cp:List (Nat×Str)}{nT:Nat}
def L_(bf:Hp->V->β->Prop)(SI:L2.St->Prop)(us:List α)(f:α->Option β)(H:Hp)(l:xM)(i:Nat)(σ:L2.St)(H':Hp):Prop:=SI σ/\ao H H'/\∃vs,H' l=some (.lst vs)/\vs.length<=i/\p8 (bf H') vs ((us.take i).filterMap f)
end
theorem p4:∀{a b:List Int},a.Perm b->a.Pairwise (·<=·)->b.Pairwise (·<=·)->a=b|[],b,p,_,_=>by have:=p.length_eq;exact(VZ.mp this.symm).symm|x::a,b,p,h1,h2=>by cases b with|nil=>have:=p.length_eq;simp at this|cons y b=>
 have h1':=UY.mp h1;have h2':=UY.mp h2;have e:x=y:=by
  have m1:y∈x::a:=p.mem_iff.mpr (by simp);have m2:x∈y::b:=p.mem_iff.mp (by simp);rcases Re m1 with z|z;·exact z.symm
  ·rcases Re m2 with z2|z2;·exact z2
   ·have:=h1'.1 y z;have:=h2'.1 x z2;lia
 subst e;rw[p4 ((List.perm_cons x).mp p) h1'.2 h2'.2]
def jF(ns:List Int):List Int:=ns.mergeSort
theorem DV{ns ns':List Int}(p:ns'.Perm ns)(h:ns'.Pairwise (·<=·)):ns'=jF ns:=by refine p4 (p.trans (List.mergeSort_perm ns _).symm) h ?_;have:=List.pairwise_mergeSort (le:=λa b:Int=>decide (a<=b)) (λa b c h1 h2=>by simp at*;lia) (λa b=>by simp;lia) ns;exact this.imp λh=>by simpa using h
theorem mH(ns:List Int):(jF ns).Perm ns:=List.mergeSort_perm ns _
theorem uB{ns:List Int}{x:Int}:x∈jF ns↔x∈ns:=(mH ns).mem_iff
theorem uA(ns:List Int):(jF ns).length=ns.length:=(mH ns).length_eq
section
variable{X:Cx}{K:Rj}{pos:Pos}
theorem vO{es:List Rl}{k:Nat}{t:Ef}{n:Nat}(hK:X.K=K)(hc:X.calm=true)(h:Bm X es t)(hn:(Sa es X.env).length=n:=by rfl)(hst:(Sa es X.env).findIdx? (·.1)=none:=by rfl):PG X (.Tuple es k pos) (Ky K n t):=hK▸Jr hc h hn hst
theorem FJ{tg l:Rl}{tl:TE}(h:X.K=K)(hl:PE X l tl):PI X tg l (KC K tl):=h▸Js hl
theorem C0{tg l:Rl}{tl:TE}(h:X.K=K)(hl:PE X l tl):PI X tg l (G3 K tl):=h▸FH hl
end
instance:Inhabited l6:=⟨⟨0,1,1,1,0⟩⟩
def aO.tie(W:aO)(k:Int):l6:=W.ties.getD k.toNat default
def aO.has(W:aO)(k thing:Int):Bool:=(W.tie k).one==thing||(W.tie k).other==thing
def aO.many(W:aO)(asked:List Int)(thing:Int):Int:=((asked.filter λk=>W.has k thing).length:Nat)
def aO.bears(W:aO)(asked taken:List Int)(thing:Int):Bool:=!taken.contains thing&&decide (W.many asked thing<W.pat.getD thing.toNat 0)
def aO.may(W:aO)(asked taken:List Int)(k:Int):Bool:=!(asked.contains k||decide (W.asks<=(asked.length:Int)))&&(W.bears asked taken (W.tie k).one&&W.bears asked taken (W.tie k).other)
def aO.askd(asked:List Int)(k:Int):List Int:=jF (asked++[k])
def aO.took(W:aO)(taken:List Int)(k:Int)(truth:Bool):List Int:=if truth then jF (taken++[(W.tie k).one,(W.tie k).other]) else taken
def aO.rng(W:aO):List Int:=(TM W.ties.length).map Int.ofNat
def aO.can(W:aO)(asked taken:List Int):List Int:=W.rng.filter λk=>W.may asked taken k
def iV(W:aO)(k:Int):Prop:=0<=k/\k<(W.ties.length:Int)
theorem iV.get{W:aO}{k:Int}(h:iV W k):W.ties[k.toNat]?=some (W.tie k):=by
 have hk:k.toNat<W.ties.length:=by have:=h.1;have:=h.2;lia
 unfold aO.tie;rw[Wa,SN hk];rfl
theorem iV.ok{W:aO}{k:Int}(h:iV W k)(o:W.Ok):(W.tie k).Ok W.things:=o.ties _ (Rf h.get)
theorem Mf{W:aO}{k:Int}:k∈W.rng↔iV W k:=by
 unfold aO.rng iV;rw[UG];constructor;·rintro⟨n,hn,rfl⟩;have:=UO.mp hn;exact⟨Int.natCast_nonneg n,by simp;lia⟩
 ·rintro⟨h0,h1⟩;exact⟨k.toNat,UO.mpr (by lia),by simp;lia⟩
def HD(K:Rj)(H:Hp)(v:V)(asked taken:List Int):Prop:=∃a b c,v=.ref a/\ff K H a [.ref b,.ref c]/\ff K H b (asked.map V.int)/\ff K H c (taken.map V.int)
theorem HD.ts{K:Rj}{H H':Hp}(s:pF H H'){v:V}{asked taken:List Int}(h:HD K H v asked taken):HD K H' v asked taken:=by obtain⟨a,b,c,e,h1,h2,h3⟩:=h;exact⟨a,b,c,e,s.tup h1,s.tup h2,s.tup h3⟩
theorem lE{ns:List Int}:(ns.map V.int).all GW=true:=by induction ns with|nil=>rfl|cons n r ih=>simpa[GW]using ih
section
variable{K:Rj}{σ:L2.St}{H:Hp}{Q:VK}{i j:Nat}{vW:V}{W:aO}{k:Int}
end
def Ho(k:Int):Prop:=-1000000<=k/\k<=1000000
def Dk(n dep:Nat)(d:Rh):Prop:=d.showable=true/\rq d=true/\L2.cnt d<=n/\d.depth<=dep
theorem Dk.mono{n m dep e:Nat}{d:Rh}(h:Dk n dep d)(h1:n<=m)(h2:dep<=e):Dk m e d:=⟨h.1,h.2.1,Sl h.2.2.1 h1,Sl h.2.2.2 h2⟩
theorem Dk.int{k:Int}(h:Ho k):Dk 1 2 (.int k):=by refine⟨?_,rfl,RL _,by simp[SF]⟩;show decide (k.natAbs.log2<1920)=true;rw[decide_eq_true_eq];exact Nat.lt_trans ((show Bt 64 k by have:=h.1;have:=h.2;unfold Bt;lia).log (by decide)) (by decide)
theorem Dk.bool(b:Bool):Dk 1 2 (.bool b):=⟨rfl,rfl,RL _,by simp[SF]⟩
theorem Dk.none:Dk 1 2 .none:=⟨rfl,rfl,RL _,by simp[SF]⟩
theorem Dk.all{n dep:Nat}:∀{ds:List Rh},(∀d∈ds,Dk n dep d)->Vw ds=true/\js ds=true/\mv ds<=ds.length*n/\TH ds<=dep
 |[],_=>⟨rfl,rfl,by simp[mv],by simp[TH]⟩|d::r,h=>by
  obtain⟨a1,a2,a3,a4⟩:=h d (by simp);obtain⟨b1,b2,b3,b4⟩:=Dk.all (ds:=r) λx hx=>h x (by simp[hx]);refine⟨?_,?_,?_,?_⟩;·simp only[Vw,a1,b1,Bool.and_self]
  ·simp only[js,a2,b2,Bool.and_self]
  ·simp only[mv,Tp,Nat.succ_mul];lia
  ·simp only[TH];lia
theorem Dk.tup{n dep m:Nat}{ds:List Rh}(h:∀d∈ds,Dk n dep d)(hl:ds.length<=m):Dk (1+m*n) (dep+2) (.tuple ds):=by
 obtain⟨b1,b2,b3,b4⟩:=Dk.all h;refine⟨b1,b2,?_,?_⟩;·simp only[L2.cnt];have:=Nat.mul_le_mul_right n hl;lia
 ·simp only[SF];lia
theorem Dk.ok{n dep:Nat}{d:Rh}(h:Dk n dep d)(h1:n<=8000)(h2:dep<=60):d.showable=true/\d.depth<=60/\d.shown.length<=RH:=by have:=uu h.2.1 h.1;have sl:RH=16777216:=SK;have:=h.2.2.1;exact⟨h.1,Sl h.2.2.2 h2,by lia⟩
theorem Dk.ints{ns:List Int}{m:Nat}(hl:ns.length<=m)(h:∀r∈ns,Ho r):Dk (1+m) 4 (.tuple (ns.map .int)):=by have:=Dk.tup (n:=1) (dep:=2) (m:=m) (ds:=ns.map PyData.int) (λd hd=>by obtain⟨x,hx,rfl⟩:=Q_ hd;exact Dk.int (h x hx)) (by rw[RQ];exact hl);simpa using this
section
variable{K:Rj}{H:Hp}
theorem Dk.bools{ns:List Bool}{m:Nat}(hl:ns.length<=m):Dk (1+m) 4 (.tuple (ns.map .bool)):=by have:=Dk.tup (n:=1) (dep:=2) (m:=m) (ds:=ns.map PyData.bool) (λd hd=>by obtain⟨x,hx,rfl⟩:=Q_ hd;exact Dk.bool x) (by rw[RQ];exact hl);simpa using this
def ce(t:l6):Rh:=.tuple [.int t.one,.int t.other,.tuple [.int t.top,.int t.bot],.int t.worth]
def ag(W:aO):Rh:=.tuple [.int W.things,.tuple (W.ties.map ce),.tuple (W.pat.map .int),.int W.asks]
def c9(asked taken:List Int):Rh:=.tuple [.tuple (asked.map .int),.tuple (taken.map .int)]
end
theorem BA:∀{bs:List Bool}{us:List Oq}{i:Nat}{v:Oq},aW (bs.map V.bl) us->us[i]?=some v->∃b,bs[i]?=some b/\v=.bool b|[],us,i,v,r,e=>by cases r;simp at e|b::bs,us,i,v,r,e=>by cases r with|cons p q=>cases i with|zero=>simp at e;subst e;cases p;exact⟨b,rfl,rfl⟩|succ i=>obtain⟨c,h1,h2⟩:=BA (bs:=bs) (i:=i) (v:=v) q (by simpa using e);exact⟨c,by simpa using h1,h2⟩
theorem Ga(bs:List Bool):((TM bs.length).all λi=>(bs[i]?).getD true)=bs.all id:=by
 rw[Vz,Sk,Sk];constructor;·intro h b hb;obtain⟨i,hi,rfl⟩:=List.getElem_of_mem hb;have:=h i (UO.mpr hi);rw[SN hi]at this;exact this
 ·intro h i hi;have hi':=UO.mp hi;rw[SN hi'];exact h _ (VA hi')
section
variable{X:Cx}
theorem BG{k:Nat}{K:Rj}(hr:bX k X.A)(hK:X.K=K):dN X (.builtin "all") (λxs H Q=>∃(l:xM) (bs:List Bool),xs=[.ref l]/\fX K H l (bs.map V.bl)/\Q (.bl (bs.all id)) H):=by
 intro pins s σ H xs us Q I r h;subst hK;obtain⟨l,bs,rfl,hs,q⟩:=h;obtain⟨u,rfl,ru⟩:=j6 r;cases ru;obtain⟨its,rv,p,hz⟩:=I.list hs;have hl:=p.isList;have lt:l<s.heap.objs.size:=by obtain⟨_,e,_⟩:=hl;exact RM e
 refine PySem.call_all_walk (wpAny_pyIter_list hl ?_);refine⟨s.heap.objs.size,[s.heap.objs.size,l],[s.heap.objs.size],its.toArray.size,_,_,λi=>(bs[i]?).getD true,rfl,Walks.list (A:=X.A.in1) hr.hd _ l (SJ lt) its.toArray,⟨⟨_,SA _ rfl,rfl,rfl⟩,hl.push _⟩,λi v s' Q' E' hP hQ=>?_,λh' tk hk=>?_⟩;·obtain⟨b,e,rfl⟩:=BA rv (by simpa using hP);simp only[e,Vx]at hQ;exact UP hQ
 ·have e:its.toArray.size=bs.length:=by have:=rv.length;rw[RQ]at this;simpa using this.symm
  rw[e,Ga];refine⟨.bl (bs.all id),H,I.kept λb x e=>hk b x (λhm=>?_) (Sf _ e),rfl,q⟩;rw[RW.mp hm]at e;exact Tw _ (RM e)
end
theorem BC:Tn "all"=some (.builtin "all"):=by decide+kernel
section
variable{prog:Rw}{w:Ro}{A:Rz}{E:Oq->Rg->Prop}{s:Rg}
theorem D7{it t:xM}{i:Nat}{ys}{x:Oq}{Q:Oq->Rg->Prop}(hi:s.heap.IsTupleIter it t i)(ht:s.heap.IsTuple t ys)(hx:ys[i]?=some x)(q:∀g,g.IsTupleIter it t (i+1)->Ud it s.heap g->Q x {s with heap:=g}):Rr (Ry prog w) A (Tu (.ref it)) Q E s:=by obtain⟨o,ho,hc,hd⟩:=id hi;obtain⟨p,hp,_,n,hpd⟩:=ht;unfold Tu;refine Rq (UJ (name:=Rm "__next__") hi.typeIs VB (Ux VB hi.typeIs F.entry_tuple_iterator_next ?_ (F.args_tuple_iterator_next_1 _)));show Rr _ _ (field (.ref it) 0>>=_) _ _ s;refine Rq (SV ho hd (x:=.ref t) rfl ?_);show Rr _ _ (if (Value.ref t==Value.none)=true then _ else _) _ _ s;rw[if_neg (show¬((Value.ref t==Value.none)=true) from Ug)];show Rr _ _ (field (.ref it) 1>>=_) _ _ s;refine Rq (SV ho hd (x:=.int i 0) rfl ?_);show Rr _ _ (seqItems? (.ref t)>>=_) _ _ s;refine Rq (TZ hp hpd ?_);simp only[Int.toNat_natCast,hx];refine Rq (wpAny_setField ho hd (by simp) (RG ⟨x,rfl,RG (q _ ?_ (Wb ..))⟩));refine⟨_,Heap.get?_update_self _ ho (Obj.isFreed_of_fields (Obj.data_mapFields hd _)),(Obj.cls_mapFields ..).trans hc,?_⟩;rw[Obj.data_mapFields hd];simp[rawInt]
theorem D6{it t:xM}{i:Nat}{ys}{Q:Oq->Rg->Prop}(hh:A.handled=none)(hi:s.heap.IsTupleIter it t i)(ht:s.heap.IsTuple t ys)(hx:ys[i]?=none)(q:∀g e,Heap.ExtBut it s.heap g->(∃o,g.get? e=some o/\o.cls=.type "StopIteration")->E (.ref e) {s with heap:=g}):Rr (Ry prog w) A (Tu (.ref it)) Q E s:=by
 obtain⟨o,ho,hc,hd⟩:=id hi;obtain⟨p,hp,_,n,hpd⟩:=ht;unfold Tu;refine Rq (UJ (name:=Rm "__next__") hi.typeIs VB (Ux VB hi.typeIs F.entry_tuple_iterator_next ?_ (F.args_tuple_iterator_next_1 _)));show Rr _ _ (field (.ref it) 0>>=_) _ _ s;refine Rq (SV ho hd (x:=.ref t) rfl ?_);show Rr _ _ (if (Value.ref t==Value.none)=true then _ else _) _ _ s;rw[if_neg (show¬((Value.ref t==Value.none)=true) from Ug)];show Rr _ _ (field (.ref it) 1>>=_) _ _ s;refine Rq (SV ho hd (x:=.int i 0) rfl ?_);show Rr _ _ (seqItems? (.ref t)>>=_) _ _ s;refine Rq (TZ hp hpd ?_);simp only[Int.toNat_natCast,hx];refine Rq (wpAny_rule (Rq (wpAny_setField ho hd (by simp) ?_)));show Rr _ _ (newExc (.type "StopIteration") []>>=_) _ _ _;refine Rq ?_;simp only[newExc,newTuple];refine Rq (Ue ?_ (by size_fits));refine Rq (m:=firstArgMember _ _) (wpAny_of_eq (a:=Value.none) (by first|rfl|(simp only[firstArgMember];rfl)) ?_);refine Ue ?_ (by size_fits);simp only[raiseNew];refine Rq (wpAny_handled ?_);first|rw[show A.in1.handled=none from hh]|rw[hh]
 refine Rq (RG (wpAny_throw ?_));exact q _ _ (((Wb ..).extBut.push _).push _) ⟨_,SA _ rfl,rfl⟩
end
structure Sc (prog:Rw) (w:Ro) (it l:xM) (St:Nat->Ru->Prop) (Sq:Ru->Array Oq->Prop):Prop where
 stay:∀{k h h'},St k h->(∀o,h.get? it=some o->h'.get? it=some o)->St k h'
 live:∀{k h},St k h->∃o,h.get? it=some o/\∀v,o.data≠.cell v
 row:∀{h h' xs},Sq h xs->(∀o,h.get? l=some o->h'.get? l=some o)->Sq h' xs
 next:∀{A:Rz}{s:Rg}{E:Oq->Rg->Prop}{Q:Oq->Rg->Prop}{k:Nat}{xs:Array Oq}{x:Oq},St k s.heap->Sq s.heap xs->xs[k]?=some x->(∀g,St (k+1) g->Ud it s.heap g->Q x {s with heap:=g})->Rr (Ry prog w) A (Tu (.ref it)) Q E s
 last:∀{A:Rz}{s:Rg}{E:Oq->Rg->Prop}{Q:Oq->Rg->Prop}{k:Nat}{xs:Array Oq},A.handled=none->St k s.heap->Sq s.heap xs->xs[k]?=none->(∀g e,Heap.ExtBut it s.heap g->(∃o,g.get? e=some o/\o.cls=.type "StopIteration")->E (.ref e) {s with heap:=g})->Rr (Ry prog w) A (Tu (.ref it)) Q E s
theorem JQ{prog:Rw}{w:Ro}(it l:xM):Sc prog w it l (λk h=>h.IsTupleIter it l k) (λh xs=>h.IsTuple l xs) where
 stay:=λst k=>st.at λo e=>k o e;live:=λst=>by obtain⟨o,e,c,d⟩:=st;exact⟨o,e,λv z=>by rw[d]at z;cases z⟩
 row:=λq k=>by obtain⟨o,e,r⟩:=q;exact⟨o,k o e,r⟩
 next:=λst sq hx q=>D7 st sq hx q;last:=λhh st sq hx q=>D6 hh st sq hx q
theorem Gf{prog:Rw}{w:Ro}(it l:xM):Sc prog w it l (λk h=>h.IsListIter it l k) (λh xs=>h.IsList l xs) where
 stay:=λst k=>st.at λo e=>k o e;live:=λst=>by obtain⟨o,e,c,d⟩:=st;exact⟨o,e,λv z=>by rw[d]at z;cases z⟩
 row:=λq k=>by obtain⟨o,e,r⟩:=q;exact⟨o,k o e,r⟩
 next:=λst sq hx q=>wpAny_nextOf_list_item st sq hx q;last:=λhh st sq hx q=>wpAny_nextOf_list_end hh st sq hx q
structure Nj (z TI TO i1 i2 l1 l2:xM):Prop where
 a1:TO≠z
 a2:i1≠z
 a3:i2≠z
 a4:TO≠i1
 a5:TO≠i2
 a6:i1≠i2
 b1:l1≠z
 b2:l1≠TO
 b3:l1≠i1
 b4:l1≠i2
 c1:l2≠z
 c2:l2≠TO
 c3:l2≠i1
 c4:l2≠i2
section
variable{prog:Rw}{w:Ro}{A:Rz}{E:Oq->Rg->Prop}{s:Rg}{z TI TO i1 i2 l1 l2:xM}{k:Nat}{xs ys:Array Oq}{a b:Oq}{S1 S2:Nat->Ru->Prop}{R1 R2:Ru->Array Oq->Prop}
end
section
variable{X:Cx}{pins:List (xM×Obj)}{σ:L2.St}{H:Hp}{s:Rg}{h':Ru}
theorem aI.turnedL{t':Nat}{fp:List xM}(I:aI X pins σ H s)(hf:∀b∈fp,ky X pins H b)(k:∀b o,b∉fp->s.heap.get? b=some o->h'.get? b=some o):aI X pins σ H {s with heap:=h',toks:=t'}:=by
 have hL:X.env.locals∉fp:=λz=>(hf _ z).2.1 rfl;have nit:∀b u,H b=some u->b∉fp:=λb u e z=>by have:=(hf b z).1;rw[this]at e;cases e
 refine I.step (g':=s.gens) (d':=s.drawn) (ch:=fp) (λb hb=>?_) (λb o _ _ hc e _=>k b o hc e) (λb o _ _ hc e _=>⟨o.slots,k b o hc e⟩) (λ_ _ _ _ n=>n) (λb o hc e=>⟨o,k b o hc e⟩) (λ_ _ e=>e) (λ_ _ _ e=>e) (λb ps e=>⟨#[],by rw[e];simp⟩) (λm hm=>?_) (λb u e=>?_) I.bare;·obtain⟨f0,f1,f2,f3,f4,f5⟩:=hf b hb;exact⟨f3,f1,f4,f5⟩
 ·obtain⟨o,es,ep,ho,r⟩:=hm;exact⟨o,es,ep,k _ o hL ho,r⟩
 ·refine(I.hok b u e).stay (λc v hc q=>k c v ?_ q) (λ_ q=>q) λ_ _ q=>q;rcases hc with z|z;·rw[z];exact nit b u e
  ·exact nit c _ z
theorem Bv(I:aI X pins σ H s){b l:xM}{xs:List V}(f:ky X pins H b)(q:ff X.K H l xs):l≠b:=by
 intro z;subst z;rcases q with (q|⟨o,q⟩)|⟨o,its,n,hk,_⟩;·rw[f.1]at q;cases q
 ·rw[f.1]at q;cases q
 ·have hb:X.base.get? l=some o:=I.ok.mod.kin l o hk;rcases f.2.2.2.1 with z|z;·exact I.ok.noex l o hb z
  ·exact absurd (So (RM (I.ok.bs l o hb).1) z) (Tw _)
end
section
variable{prog:Rw}{w:Ro}{A:Rz}{E:Oq->Rg->Prop}{s:Rg}
end
theorem boot_zip:Tn "zip"=some (.type "zip"):=by decide+kernel
def Hy(h:Ru)(z TI TO:xM)(a:xM)(f:Bool):Prop:=h.get? z=some {cls:=.type "zip",data:=.fields #[rawInt a,.bool f,.bool false,.ref TI,.ref TO]}
section
variable{prog:Rw}{w:Ro}{A:Rz}{E:Oq->Rg->Prop}{s:Rg}{z TI TO i1 i2 l1 l2:xM}{k:Nat}{xs ys:Array Oq}{a:xM}{f:Bool}{S1 S2:Nat->Ru->Prop}{R1 R2:Ru->Array Oq->Prop}
end
structure ZL (S z TI TO i1 i2 l1 l2:xM) (xs ys:Array Oq) (i:Nat) (h:Ru):Prop where
 pr:IsPair h TI (.ref i1) (.ref i2)t1:h.IsTupleIter i1 l1 i
 t2:h.IsTupleIter i2 l2 i
 s1:h.IsTuple l1 xs
 s2:h.IsTuple l2 ys
 ot:∃o,h.get? TO=some o
 zs:(IsZip h z TI TO .none/\∃a b,IsPair h TO a b)\/∃a f oa,Hy h z TI TO a f/\h.get? a=some oa/\a≠S/\a≠z/\a≠i1/\a≠i2
structure Ni (S z TO i1 i2:xM) (xs ys:Array Oq) (h:Ru) (acc:Array Oq) (i:Nat):Prop where
 sz:acc.size=i
 at_:∀(j:Nat) (v:Oq),acc[j]?=some v->∃(p:xM) (x y:Oq),v=.ref p/\xs[j]?=some x/\ys[j]?=some y/\IsPair h p x y/\p≠S/\p≠z/\p≠TO/\p≠i1/\p≠i2
 lo:∀(j:Nat) (p:xM),acc[j]?=some (.ref p)->S<p
 N7:∀(i j:Nat) (p q:xM),i<j->acc[i]?=some (.ref p)->acc[j]?=some (.ref q)->p<q
section
variable{prog:Rw}{w:Ro}{A:Rz}{R:Result->Rg->Prop}{S z TI TO i1 i2 l1 l2:xM}{xs ys:Array Oq}{n:Nat}
end
section
variable{X:Cx}{pins:List (xM×Obj)}{σ:L2.St}{H H':Hp}{s:Rg}{h':Ru}
end
section
variable{prog:Rw}{w:Ro}{A:Rz}{E:Oq->Rg->Prop}{s:Rg}{e it l:xM}{k:Nat}{xs:Array Oq}{S:Nat->Ru->Prop}{R:Ru->Array Oq->Prop}
end
section
variable{X:Cx}{pins:List (xM×Obj)}{σ:L2.St}{H:Hp}{s:Rg}
theorem Au(I:aI X pins σ H s){b l:xM}{xs:List V}(f:ky X pins H b)(q:fX X.K H l xs):l≠b:=by
 intro z;subst z;rcases q with (q|⟨o,q⟩)|⟨o,its,n,hk,_⟩;·rw[f.1]at q;cases q
 ·rw[f.1]at q;cases q
 ·have hb:X.base.get? l=some o:=I.ok.mod.kin l o hk;rcases f.2.2.2.1 with z|z;·exact I.ok.noex l o hb z
  ·exact absurd (So (RM (I.ok.bs l o hb).1) z) (Tw _)
end
section
variable{X:Cx}{a:Rl}{ta:TA}{p p2 pos pos2:Pos}
end
theorem AQ:fillsNumberSlot (.type "tuple") "mul"=pure false:=PySem.fillsNumberSlot_seq (id:="tuple.__mul__") (r:=some (.builtin "tuple.__rmul__")) UZ.lookup (by decide+kernel) F.slot_tuple_rmul.lookup (by decide+kernel)
theorem JO:seqRepeat? (.type "tuple")=pure (some (.builtin "tuple.__mul__")):=by unfold seqRepeat?;rw[PySem.seqSlot_of (T:="tuple") (name:="__mul__") (id:="tuple.__mul__") UZ.lookup (by decide+kernel),PySem.seqSlot_of (T:="tuple") (name:="__rmul__") (id:="tuple.__rmul__") F.slot_tuple_rmul.lookup (by decide+kernel)];rfl
theorem F_(a:Int)(t:Tok)(l:xM)(items:Array Oq)(n:Nat)(dd:Option xM)(sl:Array (Option Oq)):Meets (Builtin.«int.__rmul__» ⟨[.int a t,.ref l],[]⟩) (λ_ R s=>s.heap.get? l=some {cls:=.type "tuple",dict:=dd,data:=.seq items n,slots:=sl}/\R (.ok (.ret Value.notImplemented)) s):=.of_wp λprog w A R s h=>by obtain⟨hp,g,d,tk,os⟩:=s;obtain⟨hl,h⟩:=h;wp_walk;exact⟨_,rfl,h⟩
theorem IT(l:xM)(x:Oq)(n:Nat)(k:Int)(u:Tok)(dd:Option xM)(sl:Array (Option Oq))(h0:2<=k)(h1:k<=100000):Meets (Builtin.«tuple.__mul__» ⟨[.ref l,.int k u],[]⟩) (λ_ R s=>s.heap.get? l=some {cls:=.type "tuple",dict:=dd,data:=.seq #[x] n,slots:=sl}/\R (.ok (.ret (.ref s.heap.objs.size))) {s with heap:=s.heap.push {cls:=.type "tuple",data:=.seq (RF k.toNat x).toArray}}):=.of_wp λprog w A R s h=>by
 obtain⟨hp,g,d,tk,os⟩:=s;obtain⟨hl,h⟩:=h;have f1:=Wc;have c1:¬(decide (k< -(2^63))||decide (k>=2^63))=true:=by simp;lia
 have c2:¬((#[x]:Array Oq).isEmpty||k==1)=true:=by simp;lia
 have c3:¬(decide (k<=0)||(#[x]:Array Oq).isEmpty)=true:=by simp;lia
 have c4:¬(((#[x]:Array Oq).size:Int)*k>(2^63-1)/8):=by simp;lia
 have c5:¬We (((#[x]:Array Oq).size:Int)*k)=true:=by unfold We;rw[SK];simp;lia
 wp_walk using UA hl;rw[if_neg c1];wp_walk using UA hl;rw[if_neg c2];wp_walk using UA hl;rw[if_neg c3];wp_walk using UA hl;rw[if_neg c4];show Rr _ _ (if We (((#[x]:Array Oq).size:Int)*k)=true then _ else _) _ _ _;rw[if_neg c5];have f0:∀(m:Nat) (acc:Array Oq),UL (λx1 x2=>x1++x2) acc (RF m #[x])=acc++(RF m x).toArray:=by intro m;induction m with|zero=>intro acc;simp|succ m ih=>intro acc;rw[Uo,List.foldl_cons,ih,Uo];apply Array.toList_inj.mp;simp
 have e:UL (λx1 x2=>x1++x2) #[] (RF k.toNat #[x])=(RF k.toNat x).toArray:=by rw[f0];simp
 show Rr _ _ (UK (UL (λx1 x2=>x1++x2) #[] (RF k.toNat #[x]))>>=λv=>ret v) _ _ _;rw[e];unfold UK;refine Rq (Ue ?_ (by show(RF k.toNat x).toArray.size<=RH;rw[RV,VV,SK];lia));exact RG ⟨_,rfl,h⟩
theorem E7(l:xM)(x:Oq)(n:Nat)(u:Tok)(dd:Option xM)(sl:Array (Option Oq)):Meets (Builtin.«tuple.__mul__» ⟨[.ref l,.int 0 u],[]⟩) (λ_ R s=>s.heap.get? l=some {cls:=.type "tuple",dict:=dd,data:=.seq #[x] n,slots:=sl}/\R (.ok (.ret (.ref s.heap.objs.size))) {s with heap:=s.heap.push {cls:=.type "tuple",data:=.seq #[]}}):=.of_wp λprog w A R s h=>by
 obtain⟨hp,g,d,tk,os⟩:=s;obtain⟨hl,h⟩:=h;have f1:=Wc;have c2:¬((#[x]:Array Oq).isEmpty||(0:Int)==1)=true:=by simp
 wp_walk using UA hl;first|rw[if_neg c2]|skip
 wp_walk using UA hl;exact⟨_,rfl,h⟩
theorem E8(l:xM)(x:Oq)(n:Nat)(u:Tok)(dd:Option xM)(sl:Array (Option Oq)):Meets (Builtin.«tuple.__mul__» ⟨[.ref l,.int 1 u],[]⟩) (λ_ R s=>s.heap.get? l=some {cls:=.type "tuple",dict:=dd,data:=.seq #[x] n,slots:=sl}/\R (.ok (.ret (.ref l))) s):=.of_wp λprog w A R s h=>by obtain⟨hp,g,d,tk,os⟩:=s;obtain⟨hl,h⟩:=h;have f1:=Wc;wp_walk using UA hl;exact⟨_,rfl,h⟩
section
variable{X:Cx}
def Dv(K:Rj):R2:=λx y H Q=>∃a k v,x=.ref a/\y=.int k/\ff K H a [v]/\0<=k/\k<=100000/\∀p H',ao H H'->ff K H' p (RF k.toNat v)->Q (.ref p) H'
theorem Fw:iW X (Sx .Mult) (Dv X.K):=by
 intro pins s σ H x y v u Q I rx ry h;obtain⟨a,k,z,rfl,rfl,ha,k0,k1,q⟩:=h;cases rx;obtain⟨t,rfl⟩:=ry;obtain⟨its,r,p,hz⟩:=I.tuple ha;obtain⟨uz,rfl,rz⟩:=j6 r;obtain⟨⟨cls,dd,data,sl⟩,ho,hc,n,hd⟩:=id p;simp only at hc hd;subst hc hd;refine wpAny_binaryOp_repeat_ref (T:="tuple") (U:="int") (by decide) ⟨_,ho,rfl⟩ (λs'=>UW s' k t) AQ F.fills_int_mul Vt JO F.slot_int_index.lookup (Tr Vt (UW s k t) F.entry_int_rmul (F.args_int_rmul_2 _ _) (F_ k t a #[uz] n dd sl) ⟨ho,rfl,⟨_,ho,rfl⟩,?_⟩);have new:∀m:Nat,m=k.toNat->EP X pins σ Q (.ref s.heap.objs.size) {s with heap:=s.heap.push {cls:=.type "tuple",data:=.seq (RF m uz).toArray},toks:=s.toks}:=λm hm=>by
  have hf:H s.heap.objs.size=none:=I.hok.fresh (RL _);have vv:∀j:Nat,aW (RF j z) (RF j uz):=λj=>by induction j with|zero=>exact .nil|succ j ih=>exact .cons rz ih
  refine⟨.ref s.heap.objs.size,_,I.laid (t':=s.toks) (o:=.tup (RF m z)) (λb ob q=>Sf _ q) (RL _) ⟨by rw[VV,SK];lia,_,vv m,sQ.new _ _⟩,rfl,q _ _ (ao.new hf) (ff.of (by rw[au,hm]))⟩
 rcases(by lia:k=0\/k=1\/2<=k) with e|e|e;·subst e;exact Tr UZ ⟨_,ho,rfl⟩ F.entry_tuple_mul (F.args_tuple_mul_2 _ _) (E7 a uz n t dd sl) ⟨ho,new 0 rfl⟩
 ·subst e;exact Tr UZ ⟨_,ho,rfl⟩ F.entry_tuple_mul (F.args_tuple_mul_2 _ _) (E8 a uz n t dd sl) ⟨ho,⟨.ref a,H,I,rfl,q a H (ao.refl H) ha⟩⟩
 ·exact Tr UZ ⟨_,ho,rfl⟩ F.entry_tuple_mul (F.args_tuple_mul_2 _ _) (IT a uz n k t dd sl e k1) ⟨ho,new _ rfl⟩
end
section
variable{prog:Rw}{w:Ro}{A:Rz}{E:Oq->Rg->Prop}{s:Rg}
end
section
variable{X:Cx}{a:Rl}{ta:TA}{p p2 p3 pos pos2 pos3:Pos}
end
section
variable{prog:Rw}{w:Ro}{A:Rz}{E:Oq->Rg->Prop}{s:Rg}
end
section
variable{X:Cx}{K:Rj}{es:List Rl}{k0:Nat}{tp:Pos}{a:Rl}{ta:TA}{p pos:Pos}
end
theorem AX{X:Cx}:iW X (SD .IsNot) (λx y H Q=>∃b c,x=.bl b/\y=.bl c/\Q (.bl (!(b==c))) H):=by intro pins s σ H x y v u Q I rx ry h;obtain⟨b,c,rfl,rfl,q⟩:=h;cases rx;cases ry;refine wpAny_isNot_plain (by cases b<;>cases c<;>rfl) ⟨.bl (!(b==c)),H,I,?_,q⟩;show Value.bool _=Value.bool _;cases b<;>cases c<;>rfl
section
variable{prog:Rw}{w:Ro}{A:Rz}{E:Oq->Rg->Prop}{s:Rg}
end
section
variable{prog:Rw}{w:Ro}{A:Rz}{E:Oq->Rg->Prop}{s:Rg}
end
section
variable{prog:Rw}{w:Ro}{A:Rz}{E:Oq->Rg->Prop}{s:Rg}
end
theorem BM{X:Cx}{ix:Nat}{nm:Str}{posn:Pos}{pins:List (xM×Obj)}{σ:L2.St}{D0:qD}(hNd:X.N.Nodup)(hix:X.N[ix]?=some nm)(hlc:X.env.scope.names.lookup nm=some .local)(C D:xM)(H5:Hp)(s6:Rg)(hn:∃m,s6.heap.Ns C m)(qn:D0.nx (σ.set ix (some (.ref D))) H5)(fC:ky X pins H5 C)(key:∀h',Ud C s6.heap h'->aI X pins σ H5 {s6 with heap:=h'}):compPost (Ry X.prog X.w) X.A X.xe (some (Td (.Name nm posn) X.env)) (λ_ s'=>Rr (Ry X.prog X.w) X.A (pure ()) (λ_ s''=>Rr (Ry X.prog X.w) X.A (pure Flow.next) (SP X pins D0) X.xe s'') X.xe s') (.ref D) C (.ok .next) s6:=by
 obtain⟨m,hn⟩:=hn;show Rr (Ry X.prog X.w) X.A (Td (.Name nm posn) X.env (.ref D)) _ X.xe s6;refine wpAny_assign_Name (uC (v:=.ref D) (key s6.heap ⟨rfl,λ_ _=>rfl⟩) hNd hix (Or.inl hlc) rfl (λs' I' hsb=>?_) (Or.inr hlc));obtain⟨a,sb,ha⟩:=hsb;have nCa:C≠a:=by
  rcases ha with z|z;·rw[z];exact fC.2.1
  ·exactλe=>fC.2.2.2.2.1 _ _ z e.symm
 obtain⟨oN,esN,epN,hoN,rN⟩:=hn;refine⟨m,⟨oN,esN,epN,(sb.2 C nCa).trans hoN,rN⟩,λh' sb'=>RG (RG ?_)⟩;have I8:aI X pins (σ.set ix (some (.ref D))) H5 {s' with heap:=h',toks:=s'.toks}:=I'.turnedL (t':=s'.toks) (fp:=[C]) (λb hb=>by rw[RW.mp hb];exact fC) λb o nb e=>sb'.extBut b o (by simpa using nb) e;exact⟨_,H5,I8,qn⟩
inductive ye where|vi (k:Int)|vb (x:Bool)|vn|vp (a:xM) (p q:Int)
def ye.toV:ye->V|.vi k=>.int k|.vb x=>.bl x|.vn=>.non|.vp a _ _=>.ref a
def ye.toD:ye->Rh|.vi k=>.int k|.vb x=>.bool x|.vn=>.none|.vp _ p q=>.tuple [.int p,.int q]
def ye.ok(K:Rj)(F:Hp):ye->Prop|.vp a p q=>ff K F a [.int p,.int q]|_=>True
theorem ye.ok.mono{K:Rj}{F F':Hp}(h:ao F F'){a:ye}(q:a.ok K F):a.ok K F':=by cases a<;>first|exact h.tup q|trivial
mutual
def DA(K:Rj)(F:Hp):Rh->V->Prop|.none,v=>v=.non|.bool b,v=>v=.bl b|.int i,v=>v=.int i|.str x,v=>v=.str x|.tuple ds,v=>∃a xs,v=.ref a/\ff K F a xs/\aT K F ds xs|.list ds,v=>∃a xs,v=.ref a/\fX K F a xs/\aT K F ds xs|.dict kvs,v=>∃(a:xM) (m:List (Int×ye)),v=.ref a/\F a=some (.dK (m.map λp=>(Sum.inl p.1,p.2.toV)))/\kvs=m.map (λp=>(PyData.int p.1,p.2.toD))/\∀p∈m,p.2.ok K F
def aT(K:Rj)(F:Hp):List Rh->List V->Prop|[],xs=>xs=[]|d::ds,xs=>∃x r,xs=x::r/\DA K F d x/\aT K F ds r
end
mutual
theorem DA.mono{K:Rj}{F F':Hp}(h:ao F F'):∀{d:Rh}{v:V},DA K F d v->DA K F' d v|.none,_,q=>by simp only[DA]at q⊢;exact q|.bool b,_,q=>by simp only[DA]at q⊢;exact q|.int i,_,q=>by simp only[DA]at q⊢;exact q|.str x,_,q=>by simp only[DA]at q⊢;exact q|.tuple ds,_,q=>by simp only[DA]at q⊢;obtain⟨a,xs,e,s,r⟩:=q;exact⟨a,xs,e,h.tup s,aT.mono h r⟩|.list ds,_,q=>by simp only[DA]at q⊢;obtain⟨a,xs,e,s,r⟩:=q;exact⟨a,xs,e,h.seq s,aT.mono h r⟩|.dict _,_,q=>by simp only[DA]at q⊢;obtain⟨a,m,e,s,k,o⟩:=q;exact⟨a,m,e,h _ _ s,k,λp hp=>(o p hp).mono h⟩
theorem aT.mono{K:Rj}{F F':Hp}(h:ao F F'):∀{ds:List Rh}{xs:List V},aT K F ds xs->aT K F' ds xs|[],_,q=>by simp only[aT]at q⊢;exact q|d::ds,_,q=>by simp only[aT]at q⊢;obtain⟨x,r,e,a,b⟩:=q;exact⟨x,r,e,DA.mono h a,aT.mono h b⟩
end
section
variable{K:Rj}{F:Hp}
theorem aT.len:∀{ds:List Rh}{xs:List V},aT K F ds xs->ds.length=xs.length|[],_,q=>by simp only[aT]at q;subst q;rfl|d::ds,_,q=>by simp only[aT]at q;obtain⟨x,r,e,a,b⟩:=q;subst e;simp[aT.len b]
theorem aT.get:∀{ds:List Rh}{xs:List V}{i:Nat}{d:Rh},aT K F ds xs->ds[i]?=some d->∃v,xs[i]?=some v/\DA K F d v|[],_,_,_,_,h=>by simp at h|d::ds,_,i,d',q,h=>by simp only[aT]at q;obtain⟨x,r,e,a,b⟩:=q;subst e;cases i with|zero=>simp at h;subst h;exact⟨x,rfl,a⟩|succ i=>obtain⟨v,h1,h2⟩:=aT.get (i:=i) b (by simpa using h);exact⟨v,by simpa using h1,h2⟩
theorem aT.append:∀{ds es:List Rh}{xs ys:List V},aT K F ds xs->aT K F es ys->aT K F (ds++es) (xs++ys)|[],_,_,_,q,s=>by simp only[aT]at q;subst q;simpa using s|d::ds,es,_,ys,q,s=>by simp only[aT]at q;obtain⟨x,r,e,a,b⟩:=q;subst e;simp only[Ua,aT];exact⟨x,_,rfl,a,aT.append b s⟩
theorem aT.one{d:Rh}{v:V}(h:DA K F d v):aT K F [d] [v]:=by simp only[aT];exact⟨_,_,rfl,h,rfl⟩
theorem aT.nil:aT K F [] []:=by simp only[aT]
theorem aT.cons{d:Rh}{v:V}{ds:List Rh}{vs:List V}(h:DA K F d v)(r:aT K F ds vs):aT K F (d::ds) (v::vs):=by simp only[aT];exact⟨_,_,rfl,h,r⟩
theorem aT.drop:∀{ds:List Rh}{xs:List V}(n:Nat),aT K F ds xs->aT K F (ds.drop n) (xs.drop n)|_,_,0,q=>q|[],_,n+1,q=>by simp only[aT]at q;subst q;exact aT.nil|d::ds,_,n+1,q=>by simp only[aT]at q;obtain⟨x,r,e,a,b⟩:=q;subst e;simpa using aT.drop n b
theorem aT.take:∀{ds:List Rh}{xs:List V}(n:Nat),aT K F ds xs->aT K F (ds.take n) (xs.take n)|_,_,0,q=>by simpa using aT.nil|[],_,n+1,q=>by simp only[aT]at q;subst q;exact aT.nil|d::ds,_,n+1,q=>by simp only[aT]at q;obtain⟨x,r,e,a,b⟩:=q;subst e;simpa using aT.cons a (aT.take n b)
theorem aT.erase:∀{ds:List Rh}{xs:List V}(n:Nat),aT K F ds xs->aT K F (ds.eraseIdx n) (xs.eraseIdx n)|[],_,_,q=>by simp only[aT]at q;subst q;exact aT.nil|e::ds,_,n,q=>by simp only[aT]at q;obtain⟨x,r,e,a,b⟩:=q;subst e;cases n with|zero=>exact b|succ n=>exact aT.cons a (aT.erase n b)
theorem aT.ints:∀{ns:List Int}{xs:List V},aT K F (ns.map .int) xs↔xs=ns.map V.int
 |[],xs=>by simp[aT]|n::ns,xs=>by
  simp only[Sb,aT,DA];constructor;·rintro⟨x,r,e,rfl,q⟩;rw[e,aT.ints.mp q]
  ·rintro rfl;exact⟨_,_,rfl,rfl,aT.ints.mpr rfl⟩
theorem aT.bools:∀{ns:List Bool}{xs:List V},aT K F (ns.map .bool) xs↔xs=ns.map V.bl
 |[],xs=>by simp[aT]|n::ns,xs=>by
  simp only[Sb,aT,DA];constructor;·rintro⟨x,r,e,rfl,q⟩;rw[e,aT.bools.mp q]
  ·rintro rfl;exact⟨_,_,rfl,rfl,aT.bools.mpr rfl⟩
theorem cq{i:Int}{v:V}:DA K F (.int i) v↔v=.int i:=by simp only[DA]
theorem cS{b:Bool}{v:V}:DA K F (.bool b) v↔v=.bl b:=by simp only[DA]
theorem fZ{v:V}:DA K F .none v↔v=.non:=by simp only[DA]
theorem jQ{x:Str}{v:V}:DA K F (.str x) v↔v=.str x:=by simp only[DA]
theorem cO{ds:List Rh}{v:V}:DA K F (.tuple ds) v↔∃a xs,v=.ref a/\ff K F a xs/\aT K F ds xs:=by simp only[DA]
theorem eC{ds:List Rh}{v:V}:DA K F (.list ds) v↔∃a xs,v=.ref a/\fX K F a xs/\aT K F ds xs:=by simp only[DA]
end
inductive Sv where|d (x:Rh)|l (xs:List Rh)/--a list of lists that nobody else holds -/|n (xss:List (List Rh))
abbrev En:=List (Option Sv)
inductive Rv where|d (x:Rh)|l (xs:List Rh)|s (i:Nat)
def Fp(σ:L2.St)(e:En)(H:Hp)(i:Nat)(a:xM):Prop:=(∃xs:List Rh,e[i]?=some (some (Sv.l xs))/\σ[i]?=some (some (.ref a)))\/∃(xss:List (List Rh)) (l:xM) (bs:List xM),e[i]?=some (some (Sv.n xss))/\σ[i]?=some (some (.ref l))/\H l=some (.lst (bs.map V.ref))/\(a=l\/a∈bs)
def bi(σ:L2.St)(e:En)(H:Hp)(a:xM):Prop:=∃i,Fp σ e H i a
structure bf (K:Rj) (F H:Hp) (σ:L2.St) (e:En):Prop where
 sm:ao F H
 len:σ.length=e.length
 dat:∀(i:Nat) (x:Rh),e[i]?=some (some (.d x))->∃v,σ[i]?=some (some v)/\DA K F x v
 own:∀(i:Nat) (xs:List Rh),e[i]?=some (some (.l xs))->∃l vs,σ[i]?=some (some (.ref l))/\F l=none/\H l=some (.lst vs)/\aT K F xs vs
 nst:∀(i:Nat) (xss:List (List Rh)),e[i]?=some (some (.n xss))->∃(l:xM) (bs:List xM),σ[i]?=some (some (.ref l))/\F l=none/\H l=some (.lst (bs.map V.ref))/\bs.length=xss.length/\bs.Nodup/\l∉bs/\∀(k:Nat) (b:xM) (ys:List Rh),bs[k]?=some b->xss[k]?=some ys->F b=none/\∃us,H b=some (.lst us)/\aT K F ys us
 fp:∀(i j:Nat) (a:xM),Fp σ e H i a->Fp σ e H j a->i=j
theorem bf.inj{K:Rj}{F H:Hp}{σ:L2.St}{e:En}(R:bf K F H σ e)(i j:Nat)(xs ys:List Rh)(l:xM)(h1:e[i]?=some (some (.l xs)))(h2:e[j]?=some (some (.l ys)))(h3:σ[i]?=some (some (.ref l)))(h4:σ[j]?=some (some (.ref l))):i=j:=R.fp i j l (.inl ⟨xs,h1,h3⟩) (.inl ⟨ys,h2,h4⟩)
theorem bf.fpAt{K:Rj}{F H:Hp}{σ:L2.St}{e:En}(R:bf K F H σ e){i:Nat}{a:xM}(h:Fp σ e H i a):F a=none/\∃vs,H a=some (.lst vs):=by
 rcases h with⟨xs,h1,h2⟩|⟨xss,l,bs,h1,h2,h3,h4⟩;·obtain⟨l,vs,g1,g2,g3,_⟩:=R.own i xs h1;rw[h2]at g1;cases g1;exact⟨g2,vs,g3⟩
 ·obtain⟨l',bs',g1,g2,g3,g4,g5,g6,g7⟩:=R.nst i xss h1;rw[h2]at g1;cases g1;rw[h3]at g3;have e1:bs=bs':=by have:=HO.lst.inj (SB g3);exact List.map_inj_right (λ_ _ z=>V.ref.inj z)|>.mp this
  subst e1;rcases h4 with rfl|h4;·exact⟨g2,_,h3⟩
  ·obtain⟨k,hk⟩:=Va h4;have hk2:k<xss.length:=by rw[<-g4];exact(Q8 hk).1
   obtain⟨c1,us,c2,_⟩:=g7 k a xss[k] hk (SN hk2);exact⟨c1,us,c2⟩
def B9:HO->Bool|.dK _=>true|.ins _ _ _=>true|_=>false
abbrev DI:={o:HO//B9 o=true}
structure dX (σ:L2.St) (F H:Hp) (e:En) (F' H':Hp) (e':En):Prop where
 sf:ao F F'
 dom:∀a,H' a=none->H a=none
 fr:∀a vs,F a=none->H a=some (.lst vs)->¬bi σ e H a->F' a=none
 lst:∀a vs,H a=some (.lst vs)->∃vs',H' a=some (.lst vs')tmp:∀a o,H a=some o->¬bi σ e H a->H' a=some o
 shp:∀i:Nat,(∃xs,e'[i]?=some (some (.l xs)))↔(∃xs,e[i]?=some (some (.l xs)))ow:∀a,bi σ e' H' a->bi σ e H a\/H a=none
 fd:∀a (m:DI),F a=none->H a=some m.1->¬bi σ e H a->F' a=none
theorem dX.refl(σ:L2.St)(F H:Hp)(e:En):dX σ F H e F H e:=⟨ao.refl _,λ_ h=>h,λ_ _ h _ _=>h,λ_ vs h=>⟨vs,h⟩,λ_ _ h _=>h,λ_=>Iff.rfl,λ_ h=>.inl h,λ_ _ h _ _=>h⟩
theorem dX.trans{σ:L2.St}{F H F1 H1 F2 H2:Hp}{e e1 e2:En}(x:dX σ F H e F1 H1 e1)(y:dX σ F1 H1 e1 F2 H2 e2):dX σ F H e F2 H2 e2:=⟨x.sf.trans y.sf,λa h=>x.dom a (y.dom a h),λa vs h n no=>let⟨vs',q⟩:=x.lst a vs n;y.fr a vs' (x.fr a vs h n no) q (λz=>(x.ow a z).elim no λz=>by rw[n]at z;cases z),λa vs h=>let⟨vs',q⟩:=x.lst a vs h;y.lst a vs' q,λa o h n=>y.tmp a o (x.tmp a o h n) (λz=>(x.ow a z).elim n λz=>by rw[h]at z;cases z),λi=>(y.shp i).trans (x.shp i),λa h=>(y.ow a h).elim (x.ow a) λz=>.inr (x.dom a z),λa m h n no=>y.fd a m (x.fd a m h n no) (x.tmp a _ n no) (λz=>(x.ow a z).elim no λz=>by rw[n]at z;cases z)⟩
def cF(K:Rj)(σ:L2.St)(H0 F H:Hp)(e:En):Rv->V->Prop|.d x,v=>DA K F x v|.l xs,v=>∃l vs,v=.ref l/\H0 l=none/\F l=none/\H l=some (.lst vs)/\aT K F xs vs/\¬bi σ e H l|.s i,v=>σ[i]?=some (some v)/\∃xs,e[i]?=some (some (.l xs))
section
variable{K:Rj}{σ:L2.St}{H0 F H F' H':Hp}{e e':En}{r:Rv}{v:V}
theorem cF.ext(h:cF K σ H0 F H e r v)(x:dX σ F H e F' H' e'):cF K σ H0 F' H' e' r v:=by cases r with|d y=>exact DA.mono x.sf h|l xs=>obtain⟨l,vs,e1,h1,h2,h3,h4,h5⟩:=h;exact⟨l,vs,e1,h1,x.fr l _ h2 h3 h5,x.tmp l _ h3 h5,aT.mono x.sf h4,λz=>(x.ow l z).elim h5 λz=>by rw[h3]at z;cases z⟩|s i=>exact⟨h.1,(x.shp i).mpr h.2⟩
theorem cF.weak{H1:Hp}(h:cF K σ H1 F H e r v)(d:∀a,H1 a=none->H0 a=none):cF K σ H0 F H e r v:=by cases r with|d y=>exact h|l xs=>obtain⟨l,vs,e1,h1,r⟩:=h;exact⟨l,vs,e1,d l h1,r⟩|s i=>exact h
theorem bf.ownH(R:bf K F H σ e)(a:xM)(h:bi σ e H a):H a≠none:=by obtain⟨i,h⟩:=h;obtain⟨_,vs,h2⟩:=R.fpAt h;rw[h2];simp
theorem bf.freeF(R:bf K F H σ e){p:xM}(hp:H p=none):F p=none:=R.sm.free hp
theorem EE(R:bf K F H σ e)(h:∀l bs,H l=some (.lst bs)->bi σ e H l->H' l=some (.lst bs)){i:Nat}{a:xM}:Fp σ e H' i a↔Fp σ e H i a:=by
 have key:∀xss l,e[i]?=some (some (.n xss))->σ[i]?=some (some (.ref l))->H' l=H l:=λxss l h1 h2=>by obtain⟨l',bs,g1,g2,g3,_⟩:=R.nst i xss h1;rw[h2]at g1;cases g1;rw[g3];exact h l _ g3 ⟨i,.inr ⟨xss,l,bs,h1,h2,g3,.inl rfl⟩⟩
 constructor
 ·rintro(h1|⟨xss,l,bs,h1,h2,h3,h4⟩);·exact .inl h1
  ·exact .inr ⟨xss,l,bs,h1,h2,by rw[<-key xss l h1 h2];exact h3,h4⟩
 ·rintro(h1|⟨xss,l,bs,h1,h2,h3,h4⟩);·exact .inl h1
  ·exact .inr ⟨xss,l,bs,h1,h2,by rw[key xss l h1 h2];exact h3,h4⟩
theorem bf.keep(R:bf K F H σ e)(sF:ao F F')(sm:ao F' H')(hf:∀a,bi σ e H a->F' a=none)(hh:∀a o,bi σ e H a->H a=some o->H' a=some o):bf K F' H' σ e/\∀a,bi σ e H' a↔bi σ e H a:=by
 have fs:∀{i a},Fp σ e H' i a↔Fp σ e H i a:=fun{i a}=>EE R λl bs h1 h2=>hh l _ h2 h1;refine⟨⟨sm,R.len,λi x h=>let⟨v,h1,h2⟩:=R.dat i x h;⟨v,h1,DA.mono sF h2⟩,λi xs h=>?_,λi xss h=>?_,λi j a h1 h2=>R.fp i j a (fs.mp h1) (fs.mp h2)⟩,λa=>⟨λ⟨i,h⟩=>⟨i,fs.mp h⟩,λ⟨i,h⟩=>⟨i,fs.mpr h⟩⟩⟩;·obtain⟨l,vs,h1,h2,h3,h4⟩:=R.own i xs h;have o:bi σ e H l:=⟨i,.inl ⟨xs,h,h1⟩⟩;exact⟨l,vs,h1,hf l o,hh l _ o h3,h4.mono sF⟩
 ·obtain⟨l,bs,h1,h2,h3,h4,h5,h6,h7⟩:=R.nst i xss h;have o:bi σ e H l:=⟨i,.inr ⟨xss,l,bs,h,h1,h3,.inl rfl⟩⟩;refine⟨l,bs,h1,hf l o,hh l _ o h3,h4,h5,h6,λk b ys g1 g2=>?_⟩;obtain⟨c1,us,c2,c3⟩:=h7 k b ys g1 g2;have ob:bi σ e H b:=⟨i,.inr ⟨xss,l,bs,h,h1,h3,.inr (Rf g1)⟩⟩;exact⟨hf b ob,us,hh b _ ob c2,c3.mono sF⟩
theorem bf.same(R:bf K F H σ e)(s:ao H H'):bf K F H' σ e/\dX σ F H e F H' e:=by obtain⟨R',o'⟩:=R.keep (ao.refl F) (R.sm.trans s) (λa⟨i,h⟩=>(R.fpAt h).1) λa o _ h=>s a o h;exact⟨R',⟨ao.refl _,λa h=>s.free h,λ_ _ h _ _=>h,λa vs h=>⟨vs,s _ _ h⟩,λa o h _=>s a o h,λ_=>Iff.rfl,λa h=>.inl ((o' a).mp h),λ_ _ h _ _=>h⟩⟩
theorem bf.freeze(R:bf K F H σ e){p:xM}{o:HO}(hF:F p=none)(hp:H p=some o)(hn:¬bi σ e H p):bf K (bg F p o) H σ e/\ao F (bg F p o):=by
 have sF:ao F (bg F p o):=ao.new hF;refine⟨(R.keep sF (λb u q=>?_) (λa ha=>?_) λ_ _ _ h=>h).1,sF⟩
 ·by_cases z:b=p;·subst z;rw[au]at q;cases q;exact hp
  ·rw[av z]at q;exact R.sm _ _ q
 ·obtain⟨i,hi⟩:=ha;have z:a≠p:=λz=>hn ⟨i,by rw[<-z];exact hi⟩;rw[av z];exact(R.fpAt hi).1
theorem bf.notOwn(R:bf K F H σ e){p:xM}{o:HO}(hp:H p=some o)(hl:∀vs,o≠.lst vs):¬bi σ e H p:=λ⟨i,h⟩=>by obtain⟨_,vs,g⟩:=R.fpAt h;rw[hp]at g;cases g;exact hl _ rfl
theorem bf.newT(R:bf K F H σ e){p:xM}{vs:List V}(hp:H p=none):bf K (bg F p (.tup vs)) (bg H p (.tup vs)) σ e/\dX σ F H e (bg F p (.tup vs)) (bg H p (.tup vs)) e:=by have hF:=R.freeF hp;obtain⟨R1,X1⟩:=R.same (ao.new hp (o:=.tup vs));obtain⟨R2,s2⟩:=R1.freeze (p:=p) hF au (R1.notOwn au (λ_ z=>nomatch z));refine⟨R2,⟨s2,X1.dom,λa ws h n _=>?_,X1.lst,X1.tmp,X1.shp,X1.ow,λa ws h n _=>?_⟩⟩;all_goals
 have z:a≠p:=λz=>by rw[z,hp]at n;cases n
 rw[av z];exact h
theorem bf.sameOwn(R:bf K F H σ e)(s:ao H H')(a:xM):bi σ e H' a↔bi σ e H a:=(R.keep (ao.refl F) (R.sm.trans s) (λa⟨i,h⟩=>(R.fpAt h).1) λa o _ h=>s a o h).2 a
theorem bf.newL(R:bf K F H σ e){p:xM}{vs:List V}(hp:H p=none):bf K F (bg H p (.lst vs)) σ e/\dX σ F H e F (bg H p (.lst vs)) e/\F p=none/\¬bi σ e (bg H p (.lst vs)) p:=⟨(R.same (ao.new hp)).1,(R.same (ao.new hp)).2,R.freeF hp,λz=>R.ownH p ((R.sameOwn (ao.new hp) p).mp z) hp⟩
theorem bf.growT(R:bf K F H σ e){p:xM}{xs:List V}(s:ao H H')(hp:ff K H' p xs):∃F',bf K F' H' σ e/\dX σ F H e F' H' e/\ff K F' p xs:=by
 obtain⟨R1,X1⟩:=R.same s;rcases hp with hp|hp
 ·have key:∀o,H' p=some o->(∀vs,o≠.lst vs)->(∀m:DI,o≠m.1)->(∀G:Hp,G p=some o->Rd G p (.tup xs))->∃F',bf K F' H' σ e/\dX σ F H e F' H' e/\ff K F' p xs:=by intro o ho hl hm hr;cases q:F p with|some u=>have:=R1.sm _ _ q;rw[ho]at this;cases this;exact⟨F,R1,X1,.inl (hr F q)⟩|none=>
    obtain⟨R2,s2⟩:=R1.freeze q ho (R1.notOwn ho hl);refine⟨_,R2,⟨s2,X1.dom,λa ws h n _=>?_,X1.lst,X1.tmp,X1.shp,X1.ow,λa ws h n _=>?_⟩,.inl (hr _ au)⟩
    ·have z:a≠p:=λz=>by rw[z]at n;rw[s _ _ n]at ho;cases ho;exact hl _ rfl
     rw[av z];exact h
    ·have z:a≠p:=λz=>by rw[z]at n;rw[s _ _ n]at ho;cases ho;exact hm _ rfl
     rw[av z];exact h
  rcases hp with hp|⟨ob,hp⟩;·exact key _ hp (λ_ z=>nomatch z) (λm z=>nomatch z▸m.2) λG g=>.inl g
  ·exact key _ hp (λ_ z=>nomatch z) (λm z=>nomatch z▸m.2) λG g=>.inr ⟨ob,g⟩
 ·exact⟨F,R1,X1,.inr hp⟩
theorem cF.frozen(R:bf K F H σ e){xs:List Rh}(h:cF K σ H0 F H e (.l xs) v):∃F',bf K F' H σ e/\ao F F'/\DA K F' (.list xs) v/\(∀a,F a=none->H0 a≠none->F' a=none):=by
 obtain⟨l,vs,rfl,h1,h2,h3,h4,h5⟩:=h;obtain⟨R2,s2⟩:=R.freeze h2 h3 h5;refine⟨_,R2,s2,?_,λa ha hn=>?_⟩;·rw[eC];exact⟨l,vs,rfl,.inl (.inl au),aT.mono s2 h4⟩
 ·have z:a≠l:=λz=>hn (by rw[z];exact h1);rw[av z];exact ha
def e_(e:En):Rv->Option (Bool×List Rh)
 |.d (.tuple xs)=>some (false,xs)|.d (.list xs)=>some (true,xs)|.l xs=>some (true,xs)|.s i=>match e[i]? with|some (some (.l xs))=>some (true,xs)|_=>none
 |_=>none
theorem dF(R:bf K F H σ e)(h:cF K σ H0 F H e r v){b:Bool}{xs:List Rh}(q:e_ e r=some (b,xs)):∃p vs,v=.ref p/\aT K F xs vs/\(if b=true then fX K H p vs else ff K H p vs):=by cases r with
 |d x=>cases x with|tuple ds=>cases q;obtain⟨a,ys,e1,e2,e3⟩:=cO.mp h;exact⟨a,ys,e1,e3,R.sm.tup e2⟩|list ds=>cases q;obtain⟨a,ys,e1,e2,e3⟩:=eC.mp h;exact⟨a,ys,e1,e3,R.sm.seq e2⟩|_=>cases q
 |l ys=>cases q;obtain⟨l,vs,e1,h1,h2,h3,h4,_⟩:=h;exact⟨l,vs,e1,h4,.inl (.inl h3)⟩|s i=>obtain⟨h1,ys,h2⟩:=h;simp only[e_,h2]at q;cases q;obtain⟨l,vs,e1,e2,e3,e4⟩:=R.own i _ h2;rw[h1]at e1;cases e1;exact⟨l,vs,rfl,e4,.inl (.inl e3)⟩
end
abbrev FE:=En->Option (Rv×En)
abbrev FT:=En->Option (Bool×En)
abbrev FA:=En->Option (List Rv×En)
def eB(K:Rj)(σ:L2.St)(H0 F H:Hp)(e:En):List Rv->List V->Prop|[],vs=>vs=[]|r::rs,vs=>∃v ws,vs=v::ws/\cF K σ H0 F H e r v/\eB K σ H0 F H e rs ws
def fE(K:Rj)(f:FE):TE:=λσ H Q=>∃F e r e',bf K F H σ e/\f e=some (r,e')/\∀F' H' v,dX σ F H e F' H' e'->bf K F' H' σ e'->cF K σ H F' H' e' r v->Q v H'
def fT(K:Rj)(f:FT):TT:=λσ H Q=>∃F e b e',bf K F H σ e/\f e=some (b,e')/\∀F' H',dX σ F H e F' H' e'->bf K F' H' σ e'->Q b H'
def fA(K:Rj)(f:FA):TA:=λσ H Q=>∃F e rs e',bf K F H σ e/\f e=some (rs,e')/\∀F' H' vs,dX σ F H e F' H' e'->bf K F' H' σ e'->eB K σ H F' H' e' rs vs->Q vs H'
theorem PE.mono{X:Cx}{e:Rl}{t t':TE}(h:PE X e t)(m:∀σ H Q,t' σ H Q->t σ H Q):PE X e t':=λpins s σ H Q I q=>h pins s σ H Q I (m σ H Q q)
theorem PT.mono{X:Cx}{e:Rl}{t t':TT}(h:PT X e t)(m:∀σ H Q,t' σ H Q->t σ H Q):PT X e t':=λpins s σ H Q I q=>h pins s σ H Q I (m σ H Q q)
theorem PW.mono{X:Cx}{e:Rl}{t t':TT}(h:PW X e t)(m:∀σ H Q,t' σ H Q->t σ H Q):PW X e t':=λwh pins s σ H Q I q=>h wh pins s σ H Q I (m σ H Q q)
theorem PA.mono{X:Cx}{es:List Rl}{t t':TA}(h:PA X es t)(m:∀σ H Q,t' σ H Q->t σ H Q):PA X es t':=λpos pins s σ H Q I q=>h pos pins s σ H Q I (m σ H Q q)
section
variable{K:Rj}{σ:L2.St}{H0 F H F' H':Hp}{e e':En}
theorem eB.weak{H1:Hp}(d:∀a,H1 a=none->H0 a=none):∀{rs:List Rv}{vs:List V},eB K σ H1 F H e rs vs->eB K σ H0 F H e rs vs|[],_,h=>h|r::rs,_,h=>by obtain⟨v,ws,rfl,h1,h2⟩:=h;exact⟨v,ws,rfl,h1.weak d,eB.weak d h2⟩
theorem dX.frz{F'':Hp}(x:dX σ F H e F' H' e')(s:ao F' F'')(h:∀a,F' a=none->H a≠none->F'' a=none):dX σ F H e F'' H' e':=⟨x.sf.trans s,x.dom,λa vs h1 h2 h3=>h a (x.fr a vs h1 h2 h3) (by rw[h2];simp),x.lst,x.tmp,x.shp,x.ow,λa m h1 h2 h3=>h a (x.fd a m h1 h2 h3) (by rw[h2];simp)⟩
def gS:List Rv->Option (List Rh)|[]=>some []|.d x::rs=>(gS rs).map (x::·)|.l xs::rs=>(gS rs).map (.list xs::·)|.s _::_=>none
theorem eB.frozen:∀{rs:List Rv}{vs:List V}{ds:List Rh}{F:Hp},bf K F H σ e->eB K σ H0 F H e rs vs->gS rs=some ds->∃F',bf K F' H σ e/\ao F F'/\aT K F' ds vs/\(∀a,F a=none->H0 a≠none->F' a=none)|[],_,_,F,R,h,q=>by cases q;have h':_=[]:=h;subst h';exact⟨F,R,ao.refl _,aT.nil,λ_ h _=>h⟩|.d x::rs,_,ds,F,R,h,q=>by obtain⟨v,ws,rfl,h1,h2⟩:=h;obtain⟨ds',q1,rfl⟩:=Q7 q;obtain⟨F',R',s',d',f'⟩:=eB.frozen R h2 q1;exact⟨F',R',s',.cons (DA.mono s' h1) d',f'⟩|.l xs::rs,_,ds,F,R,h,q=>by obtain⟨v,ws,rfl,h1,h2⟩:=h;obtain⟨ds',q1,rfl⟩:=Q7 q;obtain⟨F',R',s',d',f'⟩:=eB.frozen R h2 q1;obtain⟨l,us,rfl,g1,g2,g3,g4,g5⟩:=h1;cases hl:F' l with|none=>have h1':cF K σ H0 F' H e (.l xs) (.ref l):=⟨l,us,rfl,g1,hl,g3,aT.mono s' g4,g5⟩;obtain⟨F2,R2,s2,d2,f2⟩:=h1'.frozen R';exact⟨F2,R2,s'.trans s2,.cons d2 (aT.mono s2 d'),λa ha hn=>f2 a (f' a ha hn) hn⟩|some o=>have:=R'.sm _ _ hl;rw[g3]at this;cases this;exact⟨F',R',s',.cons (eC.mpr ⟨l,us,rfl,.inl (.inl hl),aT.mono s' g4⟩) d',f'⟩
end
section
variable{X:Cx}{K:Rj}{a b c:Rl}{fa fb:FE}{ft fu:FT}{pos:Pos}{es:List Rl}{fs:FA}
def ab(i:Nat):FE:=λe=>match e[i]? with|some (some (.d x))=>some (.d x,e)|some (some (.l _))=>some (.s i,e)|_=>none
def vC(x:Rh):FE:=λe=>some (.d x,e)
theorem GE{i:Nat}{σ:L2.St}{H:Hp}{Q:VK}(h:fE K (ab i) σ H Q):mJ i σ H Q:=by obtain⟨F,e,r,e',R,hf,q⟩:=h;unfold ab at hf;match h1:e[i]?,hf with|some (some (.d x)),hf=>cases hf;obtain⟨v,h2,h3⟩:=R.dat i x h1;exact⟨v,h2,q F H v (dX.refl _ _ _ _) R h3⟩|some (some (.n _)),hf=>cases hf|some (some (.l xs)),hf=>cases hf;obtain⟨l,vs,h2,h3⟩:=R.own i xs h1;exact⟨_,h2,q F H _ (dX.refl _ _ _ _) R ⟨h2,xs,h1⟩⟩|some none,hf=>cases hf|none,hf=>cases hf
theorem qv(i:Nat){x:Str}{pos:Pos}(hN:X.N[i]?=some x)(hv:Km X.env.scope x)(hd:(x==("__debug__":Str))=false)(hcd:(x==("__classdict__":Str))=false):PE X (.Name x pos) (fE K (ab i)):=(aN hN hv hd hcd).mono λ_ _ _ h=>GE h
theorem x8{x:Rh}{v:V}{σ:L2.St}{H:Hp}{Q:VK}(hx:∀F,DA K F x v)(h:fE K (vC x) σ H Q):tC v σ H Q:=by obtain⟨F,e,r,e',R,hf,q⟩:=h;cases hf;exact q F H v (dX.refl _ _ _ _) R (hx F)
theorem ae{i j pos}:PE X (.Constant (.int i) j pos) (fE K (vC (.int i))):=Jp.mono λ_ _ _ h=>x8 (λ_=>cq.mpr rfl) h
theorem md{b j pos}:PE X (.Constant (.bool b) j pos) (fE K (vC (.bool b))):=Lb.mono λ_ _ _ h=>x8 (λ_=>cS.mpr rfl) h
theorem gP{j pos}:PE X (.Constant .none j pos) (fE K (vC .none)):=Jq.mono λ_ _ _ h=>x8 (λ_=>fZ.mpr rfl) h
theorem aC{x j pos}:PE X (.Constant (.str x) j pos) (fE K (vC (.str x))):=yQ.mono λ_ _ _ h=>x8 (λ_=>jQ.mpr rfl) h
theorem zR{x:Str}{v:V}{u:Oq}{pos:Pos}{y:Rh}(hg:Gl X x)(hm:X.mg x=some u)(r:bW v u)(hy:∀F,DA K F y v)(hd:(x==("__debug__":Str))=false):PE X (.Name x pos) (fE K (vC y)):=(FC hg hm r hd).mono λ_ _ _ h=>x8 hy h
def iR(K:Rj)(r:R2)(g:En->Rv->Rv->Option Rv):Prop:=∀(σ:L2.St) (H0 F H:Hp) (e:En) (x y z:Rv) (v u:V) (Q:VK),bf K F H σ e->cF K σ H0 F H e x v->cF K σ H0 F H e y u->g e x y=some z->(∀F' H' w,dX σ F H e F' H' e->bf K F' H' σ e->cF K σ H F' H' e z w->Q w H')->r v u H Q
def aA(g:En->Rv->Rv->Option Rv)(fa fb:FE):FE:=λe=>(fa e).bind λp=>(fb p.2).bind λq=>(g q.2 p.1 q.1).map λz=>(z,q.2)
theorem sM{r:R2}{g:En->Rv->Rv->Option Rv}(ho:iR K r g){σ:L2.St}{H:Hp}{Q:VK}(h:fE K (aA g fa fb) σ H Q):Kk r (fE K fa) (fE K fb) σ H Q:=by obtain⟨F,e,z,e2,R,hf,q⟩:=h;unfold aA at hf;obtain⟨⟨x,e1⟩,h1,hf⟩:=Q6 hf;obtain⟨⟨y,e2'⟩,h2,hf⟩:=Q6 hf;obtain⟨z',h3,hf⟩:=Q7 hf;cases hf;refine⟨F,e,x,e1,R,h1,λF1 H1 v X1 R1 A1=>⟨F1,e1,y,_,R1,h2,λF2 H2 u X2 R2 A2=>?_⟩⟩;have X12:=X1.trans X2;refine ho σ H F2 H2 _ x y _ v u Q R2 (A1.ext X2) (A2.weak X1.dom) h3 λF3 H3 w X3 R3 A3=>?_;exact q F3 H3 w (X12.trans X3) R3 (A3.weak X12.dom)
theorem rL{op:Operator}{r:R2}{g:En->Rv->Rv->Option Rv}(hr:iW X (Sx op) r)(ho:iR K r g)(ha:PE X a (fE K fa))(hb:PE X b (fE K fb)):PE X (.BinOp a op b pos) (fE K (aA g fa fb)):=(G8 hr ha hb).mono λ_ _ _ h=>sM ho h
theorem JC{op:CmpOp}{r:R2}{g:En->Rv->Rv->Option Rv}(hr:iW X (SD op) r)(ho:iR K r g)(ha:PE X a (fE K fa))(hb:PE X b (fE K fb))(hm:To op b=false):PE X (.Compare a [op] [b] pos) (fE K (aA g fa fb)):=(FB hr ha hb hm).mono λ_ _ _ h=>sM ho h
theorem Ll{r:R2}{g:En->Rv->Rv->Option Rv}(hr:Er X r)(ho:iR K r g)(ha:PE X a (fE K fa))(hb:PE X b (fE K fb))(hs:mM b):PE X (.Subscript a b pos) (fE K (aA g fa fb)):=(CU hr ha hb hs).mono λ_ _ _ h=>sM ho h
def ww(g:En->Rv->Option Rv)(fa:FE):FE:=λe=>(fa e).bind λp=>(g p.2 p.1).map λz=>(z,p.2)
def Ka(K:Rj)(r:V->Hp->VK->Prop)(g:En->Rv->Option Rv):Prop:=∀(σ:L2.St) (H0 F H:Hp) (e:En) (x z:Rv) (v:V) (Q:VK),bf K F H σ e->cF K σ H0 F H e x v->g e x=some z->(∀F' H' w,dX σ F H e F' H' e->bf K F' H' σ e->cF K σ H F' H' e z w->Q w H')->r v H Q
theorem Eb{r:V->Hp->VK->Prop}{g:En->Rv->Option Rv}(ho:Ka K r g){σ:L2.St}{H:Hp}{Q:VK}(h:fE K (ww g fa) σ H Q):NF r (fE K fa) σ H Q:=by obtain⟨F,e,z,e2,R,hf,q⟩:=h;unfold ww at hf;obtain⟨⟨x,e1⟩,h1,hf⟩:=Q6 hf;obtain⟨z',h3,hf⟩:=Q7 hf;cases hf;refine⟨F,e,x,_,R,h1,λF1 H1 v X1 R1 A1=>?_⟩;refine ho σ H F1 H1 _ x _ v Q R1 A1 h3 λF3 H3 w X3 R3 A3=>?_;exact q F3 H3 w (X1.trans X3) R3 (A3.weak X1.dom)
theorem Lm{op:UnaryOp}{r:V->Hp->VK->Prop}{g:En->Rv->Option Rv}(hr:L' X (unaryOp op) r)(ho:Ka K r g)(ha:PE X a (fE K fa)):PE X (.UnaryOp op a pos) (fE K (ww g fa)):=(Ld hr ha).mono λ_ _ _ h=>Eb ho h
def c_:Rv->Option Bool|.d (.bool b)=>some b|_=>none
theorem io{σ:L2.St}{H0 F H:Hp}{e:En}{r:Rv}{v:V}{b:Bool}(h:cF K σ H0 F H e r v)(q:c_ r=some b):v=.bl b:=by
 unfold c_ at q;split at q;·cases q;exact cS.mp (show DA K F (.bool _) v from h)
 ·cases q
theorem eU{σ:L2.St}{H0 F H:Hp}{e:En}{b:Bool}:cF K σ H0 F H e (.d (.bool b)) (.bl b):=(cS (K:=K) (F:=F)).mpr rfl
def az(f:FE):FT:=λe=>(f e).bind λp=>(c_ p.1).map λb=>(b,p.2)
theorem yd{σ:L2.St}{H:Hp}{Q:Bool->Hp->Prop}(h:fT K (az fa) σ H Q):fE K fa σ H λx H'=>∃k,x=.bl k/\Q k H':=by obtain⟨F,e,b,e1,R,hf,q⟩:=h;unfold az at hf;obtain⟨⟨x,e1'⟩,h1,hf⟩:=Q6 hf;obtain⟨b',h3,hf⟩:=Q7 hf;cases hf;exact⟨F,e,x,_,R,h1,λF1 H1 v X1 R1 A1=>⟨_,io A1 h3,q F1 H1 X1 R1⟩⟩
theorem JE{op:CmpOp}{r:R2}{g:En->Rv->Rv->Option Rv}(hr:iW X (SD op) r)(ho:iR K r g)(ha:PE X a (fE K fa))(hb:PE X b (fE K fb))(hm:To op b=false):PT X (.Compare a [op] [b] pos) (fT K (az (aA g fa fb))):=(zP hr ha hb hm).mono λσ H Q h=>by obtain⟨F,e,z,e2,R,hf,q⟩:=yd h;exact sM ho ⟨F,e,z,e2,R,hf,q⟩
theorem iL{e:Rl}(h:PE X e (fE K fa))(he:∀whole,isTrue e X.env whole=(do let v<-whole;standAt e.pos;holding [v] (truthy v))):PT X e (fT K (az fa)):=(C7 h he).mono λ_ _ _ h=>yd h
def mK(f g:FT):FT:=λe=>(f e).bind λp=>if p.1=true then g p.2 else some (false,p.2)
def tF(f g:FT):FT:=λe=>(f e).bind λp=>if p.1=true then some (true,p.2) else g p.2
def mL(f:FT):FT:=λe=>(f e).map λp=>(!p.1,p.2)
theorem GA{σ:L2.St}{H:Hp}{Q:Bool->Hp->Prop}(h:fT K (mK ft fu) σ H Q):LJ (fT K ft) (fT K fu) σ H Q:=by obtain⟨F,e,b,e1,R,hf,q⟩:=h;unfold mK at hf;obtain⟨⟨x,e1'⟩,h1,hf⟩:=Q6 hf;refine⟨F,e,x,e1',R,h1,λF1 H1 X1 R1=>?_⟩;cases x with|true=>exact⟨F1,e1',b,e1,R1,hf,λF2 H2 X2 R2=>q F2 H2 (X1.trans X2) R2⟩|false=>cases hf;exact q F1 H1 X1 R1
theorem J4{σ:L2.St}{H:Hp}{Q:Bool->Hp->Prop}(h:fT K (tF ft fu) σ H Q):M9 (fT K ft) (fT K fu) σ H Q:=by obtain⟨F,e,b,e1,R,hf,q⟩:=h;unfold tF at hf;obtain⟨⟨x,e1'⟩,h1,hf⟩:=Q6 hf;refine⟨F,e,x,e1',R,h1,λF1 H1 X1 R1=>?_⟩;cases x with|false=>exact⟨F1,e1',b,e1,R1,hf,λF2 H2 X2 R2=>q F2 H2 (X1.trans X2) R2⟩|true=>cases hf;exact q F1 H1 X1 R1
theorem GB{σ:L2.St}{H:Hp}{Q:Bool->Hp->Prop}(h:fT K (mL ft) σ H Q):LP (fT K ft) σ H Q:=by obtain⟨F,e,b,e1,R,hf,q⟩:=h;unfold mL at hf;obtain⟨⟨x,e1'⟩,h1,hf⟩:=Q7 hf;cases hf;exact⟨F,e,x,_,R,h1,λF1 H1 X1 R1=>q F1 H1 X1 R1⟩
variable{aB:List Rl}
theorem vX(ha:PT X a (fT K ft)):PW X (.BoolOp .And [a] pos) (fT K ft):=FU ha
theorem lm(ha:PT X a (fT K ft)):PW X (.BoolOp .Or [a] pos) (fT K ft):=C8 ha
theorem yW(ha:PT X a (fT K ft))(hb:PW X (.BoolOp .And (b::aB) pos) (fT K fu)):PW X (.BoolOp .And (a::b::aB) pos) (fT K (mK ft fu)):=(Jx ha hb).mono λ_ _ _ h=>GA h
theorem pU(ha:PT X a (fT K ft))(hb:PW X (.BoolOp .Or (b::aB) pos) (fT K fu)):PW X (.BoolOp .Or (a::b::aB) pos) (fT K (tF ft fu)):=(G_ ha hb).mono λ_ _ _ h=>J4 h
theorem yV(ha:PT X a (fT K ft)):PT X (.UnaryOp .Not a pos) (fT K (mL ft)):=(C6 ha).mono λ_ _ _ h=>GB h
theorem rP{e:Rl}(h:PW X e (fT K ft)):PT X e (fT K ft):=h.pt
def jH(f g:FE):FE:=λe=>(f e).bind λp=>(c_ p.1).bind λb=>if b=true then g p.2 else some (.d (.bool false),p.2)
def wo(f g:FE):FE:=λe=>(f e).bind λp=>(c_ p.1).bind λb=>if b=true then some (.d (.bool true),p.2) else g p.2
def oJ(f:FE):FE:=λe=>(f e).bind λp=>(c_ p.1).map λb=>(.d (.bool (!b)),p.2)
theorem Dg(ha:PE X a (fE K fa))(hb:PE X (.BoolOp .And (b::aB) pos) (fE K fb)):PE X (.BoolOp .And (a::b::aB) pos) (fE K (jH fa fb)):=(CP ha hb).mono λσ H Q h=>by obtain⟨F,e,z,e2,R,hf,q⟩:=h;unfold jH at hf;obtain⟨⟨x,e1⟩,h1,hf⟩:=Q6 hf;obtain⟨b,h2,hf⟩:=Q6 hf;refine⟨F,e,x,e1,R,h1,λF1 H1 v X1 R1 A1=>⟨b,io A1 h2,?_⟩⟩;cases b with|true=>exact⟨F1,e1,z,e2,R1,hf,λF2 H2 w X2 R2 A2=>q F2 H2 w (X1.trans X2) R2 (A2.weak X1.dom)⟩|false=>cases hf;exact q F1 H1 _ X1 R1 eU
theorem Dj{op}(h:PE X a (fE K fa)):PE X (.BoolOp op [a] pos) (fE K fa):=CW h
def zg(t:FT)(f g:FE):FE:=λe=>(t e).bind λp=>if p.1=true then f p.2 else g p.2
theorem oh{c:Rl}(hc:PT X c (fT K ft))(ha:PE X a (fE K fa))(hb:PE X b (fE K fb)):PE X (.IfExp c a b pos) (fE K (zg ft fa fb)):=(xC hc ha hb).mono λσ H Q h=>by obtain⟨F,e,z,e2,R,hf,q⟩:=h;unfold zg at hf;obtain⟨⟨x,e1⟩,h1,hf⟩:=Q6 hf;refine⟨F,e,x,e1,R,h1,λF1 H1 X1 R1=>?_⟩;cases x with|true=>exact⟨F1,e1,z,e2,R1,hf,λF2 H2 w X2 R2 A2=>q F2 H2 w (X1.trans X2) R2 (A2.weak X1.dom)⟩|false=>exact⟨F1,e1,z,e2,R1,hf,λF2 H2 w X2 R2 A2=>q F2 H2 w (X1.trans X2) R2 (A2.weak X1.dom)⟩
def ah:FA:=λe=>some ([],e)
def aa(fa:FE)(fs:FA):FA:=λe=>(fa e).bind λp=>(fs p.2).map λq=>(p.1::q.1,q.2)
theorem ac:PA X [] (fA K ah):=fL.mono λσ H Q h=>by obtain⟨F,e,r,e',R,hf,q⟩:=h;cases hf;exact q F H [] (dX.refl _ _ _ _) R rfl
theorem MZ(ha:PE X a (fE K fa))(hr:PA X es (fA K fs))(h:TF a=false):PA X (a::es) (fA K (aa fa fs)):=(nV ha hr h).mono λσ H Q h=>by obtain⟨F,e,z,e2,R,hf,q⟩:=h;unfold aa at hf;obtain⟨⟨x,e1⟩,h1,hf⟩:=Q6 hf;obtain⟨⟨xs,e2'⟩,h2,hf⟩:=Q7 hf;cases hf;refine⟨F,e,x,e1,R,h1,λF1 H1 v X1 R1 A1=>⟨F1,e1,xs,_,R1,h2,λF2 H2 vs X2 R2 A2=>?_⟩⟩;exact q F2 H2 (v::vs) (X1.trans X2) R2 ⟨v,vs,rfl,A1.ext X2,A2.weak X1.dom⟩
def cN(fs:FA):FE:=λe=>(fs e).bind λp=>(gS p.1).bind λds=>if ds.length<=1000 then some (.d (.tuple ds),p.2) else none
def dq(fs:FA):FE:=λe=>(fs e).bind λp=>(gS p.1).bind λds=>if ds.length<=1000 then some (.l ds,p.2) else none
theorem bH{x1}(h:PA X es (fA K fs)):PE X (.Tuple es x1 pos) (fE K (cN fs)):=(CZ h).mono λσ H Q h=>by
 obtain⟨F,e,z,e2,R,hf,q⟩:=h;unfold cN at hf;obtain⟨⟨rs,e1⟩,h1,hf⟩:=Q6 hf;obtain⟨ds,h2,hf⟩:=Q6 hf;split at hf;case isFalse=>cases hf
 case isTrue hl=>cases hf;refine⟨F,e,rs,_,R,h1,λF1 H1 vs X1 R1 A1=>?_⟩;obtain⟨F2,R2,s2,d2,f2⟩:=eB.frozen R1 A1 h2;have hlen:=d2.len;refine⟨Ut (uw (by lia)),λp hp=>?_⟩;obtain⟨R3,X3⟩:=R2.newT (vs:=vs) hp;exact q _ _ _ ((X1.frz s2 f2).trans X3) R3 (cO.mpr ⟨p,vs,rfl,.inl (.inl au),aT.mono X3.sf d2⟩)
theorem cC(h:PA X es (fA K fs)):PE X (.List es pos) (fE K (dq fs)):=(vN h).mono λσ H Q h=>by
 obtain⟨F,e,z,e2,R,hf,q⟩:=h;unfold dq at hf;obtain⟨⟨rs,e1⟩,h1,hf⟩:=Q6 hf;obtain⟨ds,h2,hf⟩:=Q6 hf;split at hf;case isFalse=>cases hf
 case isTrue hl=>cases hf;refine⟨F,e,rs,_,R,h1,λF1 H1 vs X1 R1 A1=>?_⟩;obtain⟨F2,R2,s2,d2,f2⟩:=eB.frozen R1 A1 h2;have hlen:=d2.len;refine⟨Ut (uw (by lia)),λp hp=>?_⟩;obtain⟨R3,X3,hF,no⟩:=R2.newL (vs:=vs) hp;exact q _ _ _ ((X1.frz s2 f2).trans X3) R3 ⟨p,vs,rfl,X1.dom p hp,hF,au,d2,no⟩
def dH(K:Rj)(r:List V->Hp->VK->Prop)(g:En->List Rv->Option Rv):Prop:=∀(σ:L2.St) (H0 F H:Hp) (e:En) (xs:List Rv) (z:Rv) (vs:List V) (Q:VK),bf K F H σ e->eB K σ H0 F H e xs vs->g e xs=some z->(∀F' H' w,dX σ F H e F' H' e->bf K F' H' σ e->cF K σ H F' H' e z w->Q w H')->r vs H Q
def aJ(g:En->List Rv->Option Rv)(fs:FA):FE:=λe=>(fs e).bind λp=>(g p.2 p.1).map λz=>(z,p.2)
theorem x9{r:List V->Hp->VK->Prop}{g:En->List Rv->Option Rv}(ho:dH K r g){σ:L2.St}{H:Hp}{Q:VK}(h:fE K (aJ g fs) σ H Q):Mh r (fA K fs) σ H Q:=by obtain⟨F,e,z,e2,R,hf,q⟩:=h;unfold aJ at hf;obtain⟨⟨x,e1⟩,h1,hf⟩:=Q6 hf;obtain⟨z',h3,hf⟩:=Q7 hf;cases hf;refine⟨F,e,x,_,R,h1,λF1 H1 vs X1 R1 A1=>?_⟩;refine ho σ H F1 H1 _ x _ vs Q R1 A1 h3 λF3 H3 w X3 R3 A3=>?_;exact q F3 H3 w (X1.trans X3) R3 (A3.weak X1.dom)
theorem Di{x:Str}{p pos:Pos}{id:String}{r:List V->Hp->VK->Prop}{g:En->List Rv->Option Rv}(hc:dN X (.builtin id) r)(ho:dH K r g)(hg:Gl X x)(hm:X.mg x=none)(hv:Tn x=some (.builtin id))(ha:PA X (a::es) (fA K fs))(hn:x≠"__name__")(hdb:(x==("__debug__":Str))=false)(he:RB (a::es) X.env=(false,RC a X.env)::RB es X.env)(hpl:(RP pos (RB es X.env)).any (·.1)=false):PE X (.Call (.Name x p) (a::es) [] pos) (fE K (aJ g fs)):=(rF hc hg hm hv ha hn hdb he hpl).mono λ_ _ _ h=>x9 ho h
theorem A4{x:Str}{p pos:Pos}{T:String}{r:List V->Hp->VK->Prop}{g:En->List Rv->Option Rv}(hc:dN X (.type T) r)(ho:dH K r g)(hg:Gl X x)(hm:X.mg x=none)(hv:Tn x=some (.type T))(ha:PA X (a::es) (fA K fs))(hn:x≠"__name__")(hdb:(x==("__debug__":Str))=false)(he:RB (a::es) X.env=(false,RC a X.env)::RB es X.env)(hpl:(RP pos (RB es X.env)).any (·.1)=false):PE X (.Call (.Name x p) (a::es) [] pos) (fE K (aJ g fs)):=(uj hc hg hm hv ha hn hdb he hpl).mono λ_ _ _ h=>x9 ho h
end
mutual
theorem DA.reads{X:Cx}{pins:List (xM×Obj)}{σ:L2.St}{H:Hp}{s:Rg}(I:aI X pins σ H s):∀{d:Rh}{v:V}{u:Oq},d.canLay0=true->DA X.K H d v->bW v u->∃as,Reads s.heap u d as|.none,_,_,_,q,r=>by simp only[DA]at q;subst q;cases r;exact⟨_,.none⟩|.bool b,_,_,_,q,r=>by simp only[DA]at q;subst q;cases r;exact⟨_,.bool b⟩|.int i,_,_,_,q,r=>by simp only[DA]at q;subst q;obtain⟨t,rfl⟩:=r;exact⟨_,.int i t⟩|.str x,_,_,_,q,r=>by simp only[DA]at q;subst q;obtain⟨t,rfl⟩:=r;exact⟨_,.str x t⟩|.tuple ds,_,_,c,q,r=>by simp only[DA]at q;obtain⟨a,xs,e,hs,rr⟩:=q;subst e;cases r;obtain⟨its,rv,⟨o,ho,hc,n,hd⟩,hz⟩:=I.tuple hs;obtain⟨as,q⟩:=aT.reads I (by simpa[Sn]using c) rr rv;exact⟨_,.tuple ho hc hd q⟩|.list ds,_,_,c,q,r=>by simp only[DA]at q;obtain⟨a,xs,e,hs,rr⟩:=q;subst e;cases r;obtain⟨its,rv,ht,hz⟩:=I.list hs;obtain⟨o,ho,hc,n,hd⟩:=ht.isList;obtain⟨as,q⟩:=aT.reads I (by simpa[Sn]using c) rr rv;exact⟨_,.list ho hc hd q⟩|.dict _,_,_,c,_,_=>by simp[Sn]at c
theorem aT.reads{X:Cx}{pins:List (xM×Obj)}{σ:L2.St}{H:Hp}{s:Rg}(I:aI X pins σ H s):∀{ds:List Rh}{xs:List V}{us:List Oq},Tg ds=true->aT X.K H ds xs->aW xs us->∃as,ReadsAll s.heap us ds as|[],_,_,_,q,r=>by simp only[aT]at q;subst q;cases r;exact⟨_,.nil⟩|d::ds,_,_,c,q,r=>by simp only[aT]at q;simp only[Tg,Sr]at c;obtain⟨x,rr,e,a,b⟩:=q;subst e;cases r with|cons p p'=>obtain⟨as,q1⟩:=DA.reads I c.1 a p;obtain⟨bs,q2⟩:=aT.reads I c.2 b p';exact⟨_,.cons q1 q2⟩
end
def iX(e:En):Rv->Option Rh|.d x=>some x|.l xs=>some (.list xs)|.s i=>match e[i]? with|some (some (.l xs))=>some (.list xs)|_=>none
theorem kN{K:Rj}{σ:L2.St}{H0 F H:Hp}{e:En}{r:Rv}{v:V}{d:Rh}(R:bf K F H σ e)(h:cF K σ H0 F H e r v)(q:iX e r=some d):DA K H d v:=by cases r with|d x=>cases q;exact DA.mono R.sm h|l xs=>cases q;obtain⟨l,vs,rfl,h1,h2,h3,h4,_⟩:=h;exact eC.mpr ⟨l,vs,rfl,.inl (.inl h3),aT.mono R.sm h4⟩|s i=>obtain⟨h1,ys,h2⟩:=h;simp only[iX,h2]at q;cases q;obtain⟨l,vs,e1,e2,e3,e4⟩:=R.own i _ h2;rw[h1]at e1;cases e1;exact eC.mpr ⟨l,vs,rfl,.inl (.inl e3),aT.mono R.sm e4⟩
section
variable{X:Cx}{K:Rj}
def cG:Rv->Option Int|.d (.int i)=>some i|_=>none
theorem df{σ:L2.St}{H0 F H:Hp}{e:En}{r:Rv}{v:V}{i:Int}(h:cF K σ H0 F H e r v)(q:cG r=some i):v=.int i:=by
 unfold cG at q;split at q;·cases q;exact cq.mp (show DA K F (.int _) v from h)
 ·cases q
theorem rT{σ:L2.St}{H0 F H:Hp}{e:En}{i:Int}:cF K σ H0 F H e (.d (.int i)) (.int i):=(cq (K:=K) (F:=F)).mpr rfl
def gI(C:Int->Int->Bool)(f:Int->Int->Rh):En->Rv->Rv->Option Rv:=λ_ x y=>(cG x).bind λi=>(cG y).bind λj=>if C i j=true then some (.d (f i j)) else none
theorem xA{C:Int->Int->Prop}{c:Int->Int->Bool}{g:Int->Int->V}{f:Int->Int->Rh}(hc:∀i j,c i j=true->C i j)(hf:∀F i j,DA K F (f i j) (g i j)):iR K (rI C g) (gI c f):=by
 intro σ H0 F H e x y z v u Q R A B hg q;unfold gI at hg;obtain⟨i,h1,hg⟩:=Q6 hg;obtain⟨j,h2,hg⟩:=Q6 hg;split at hg;case isFalse=>cases hg
 case isTrue hh=>cases hg;exact⟨i,j,df A h1,df B h2,hc i j hh,q F H _ (dX.refl _ _ _ _) R (hf F i j)⟩
theorem mz{g:Int->Int->V}{f:Int->Int->Rh}(hf:∀F i j,DA K F (f i j) (g i j)):iR K (A8 g) (gI (λ_ _=>true) f):=by intro σ H0 F H e x y z v u Q R A B hg q;obtain⟨i,j,h1,h2,h3,h4⟩:=xA (K:=K) (C:=λ_ _=>True) (c:=λ_ _=>true) (g:=g) (f:=f) (λ_ _ _=>trivial) hf σ H0 F H e x y z v u Q R A B hg q;exact⟨i,j,h1,h2,h4⟩
def Ej(g g':En->Rv->Rv->Option Rv):En->Rv->Rv->Option Rv:=λe x y=>(g e x y).or (g' e x y)
theorem iR.or{r r':R2}{g g':En->Rv->Rv->Option Rv}(h:iR K r g)(h':iR K r' g'):iR K (λx y H Q=>r x y H Q\/r' x y H Q) (Ej g g'):=by intro σ H0 F H e x y z v u Q R A B hg q;unfold Ej at hg;cases e1:g e x y with|some w=>rw[e1]at hg;cases hg;exact .inl (h σ H0 F H e x y _ v u Q R A B e1 q)|none=>rw[e1]at hg;exact .inr (h' σ H0 F H e x y _ v u Q R A B hg q)
def zE:=gI (λ_ _=>true) λi j=>.int (i+j)
def oS:=gI (λ_ _=>true) λi j=>.int (i-j)
def kc(i:Int):Bool:=decide (-(2^64)<i)&&decide (i<2^64)
def Kt(n:Nat)(i:Int):Bool:=decide (i.natAbs<2^n)
theorem mS{n:Nat}{i:Int}:Kt n i=true↔Bt n i:=by unfold Kt Bt;exact decide_eq_true_iff
def oZ(i j:Int):Bool:=kc i||kc j||(Kt 4000 i&&Kt 4000 j)
def BZ:=gI oZ λi j=>.int (i*j)
def iF:=gI (λ_ j=>j !=0&&Kt 8000 j) λi j=>.int (i.fdiv j)
def bK:=gI (λ_ j=>j !=0) λi j=>.int (i.fmod j)
def C4(i j:Int):Bool:=decide (0<=j)&&decide (j<=1000000)&&kc i
def yy:=gI C4 λi j=>.int (i^j.toNat)
theorem mG{i:Int}(h:kc i=true):-(2^64)<i/\i<2^64:=by unfold kc at h;rw[Sr,decide_eq_true_iff,decide_eq_true_iff]at h;exact h
theorem FP{i j:Int}(h:C4 i j=true):Hw i j:=by unfold C4 at h;rw[Sr,Sr,decide_eq_true_iff,decide_eq_true_iff]at h;have:=mG h.2;exact⟨h.1.1,h.1.2,by lia⟩
def zl(i j:Int):Prop:=Eo i j\/GI i j
theorem Ft:iW X (Sx .Mult) (rI zl λi j=>.int (i*j)):=by
 intro pins s σ H x y v u Q I rx ry h;obtain⟨i,j,e1,e2,h1,q⟩:=h;rcases h1 with h1|h1;·exact Jj pins s σ H x y v u Q I rx ry ⟨i,j,e1,e2,h1,q⟩
 ·exact Fu pins s σ H x y v u Q I rx ry ⟨i,j,e1,e2,h1,q⟩
theorem Fc{i j:Int}(h:oZ i j=true):zl i j:=by
 unfold oZ at h;rw[Bool.or_eq_true,Bool.or_eq_true,Sr]at h;rcases h with (h|h)|h;·exact .inl (.inl (mG h))
 ·exact .inl (.inr (mG h))
 ·exact .inr ⟨mS.mp h.1,mS.mp h.2⟩
theorem IS:iR K (rI zl λi j=>.int (i*j)) BZ:=xA (λ_ _ h=>Fc h) λ_ _ _=>cq.mpr rfl
theorem LG:iR K (A8 λi j=>.int (i-j)) oS:=mz λ_ _ _=>cq.mpr rfl
theorem HS:iR K (rI GH λi j=>.int (i.fdiv j)) iF:=xA (λi j h=>by rw[Sr]at h;exact⟨by simpa using h.1,mS.mp h.2⟩) λ_ _ _=>cq.mpr rfl
theorem K4:iR K (rI (λ_ j=>j≠0) λi j=>.int (i.fmod j)) bK:=xA (λi j h=>by simpa using h) λ_ _ _=>cq.mpr rfl
theorem Lf:iR K (rI Hw λi j=>.int (i^j.toNat)) yy:=xA (λ_ _ h=>FP h) λ_ _ _=>cq.mpr rfl
def qR:En->Rv->Rv->Option Rv:=λe x y=>match e_ e x,e_ e y with|some (false,xs),some (false,ys)=>if xs.length+ys.length<=1000000 then some (.d (.tuple (xs++ys))) else none|_,_=>none
theorem HK:iR K (Dr K) qR:=by intro σ H0 F H e x y z v u Q R A B hg q;unfold qR at hg;match h1:e_ e x,h2:e_ e y,hg with
 |some (false,xs),some (false,ys),hg=>
  obtain⟨p,vs,rfl,d1,s1⟩:=dF R A h1;obtain⟨p',us,rfl,d2,s2⟩:=dF R B h2;dsimp only at hg;split at hg;case isFalse=>cases hg
  case isTrue hl=>cases hg;have l1:=d1.len;have l2:=d2.len;have sl:RH=16777216:=SK;refine⟨p,p',vs,us,rfl,rfl,s1,s2,by lia,λt H' sm hT=>?_⟩;obtain⟨F',R',X',hF⟩:=R.growT sm hT;exact q F' H' _ X' R' (cO.mpr ⟨t,_,rfl,hF,(d1.append d2).mono X'.sf⟩)
def Cp(e:En):Rv->Option (List Rh)
 |.l xs=>some xs|.s i=>match e[i]? with|some (some (.l xs))=>some xs|_=>none
 |_=>none
theorem vF{σ:L2.St}{H0 F H:Hp}{e:En}{r:Rv}{v:V}(R:bf K F H σ e)(h:cF K σ H0 F H e r v){xs:List Rh}(q:Cp e r=some xs):∃p vs,v=.ref p/\F p=none/\H p=some (.lst vs)/\aT K F xs vs:=by cases r with|d x=>cases q|l ys=>cases q;obtain⟨l,vs,e1,h1,h2,h3,h4,_⟩:=h;exact⟨l,vs,e1,h2,h3,h4⟩|s i=>obtain⟨h1,ys,h2⟩:=h;simp only[Cp,h2]at q;cases q;obtain⟨l,vs,e1,e2,e3,e4⟩:=R.own i _ h2;rw[h1]at e1;cases e1;exact⟨l,vs,rfl,e2,e3,e4⟩
def zF:En->Rv->Rv->Option Rv:=λe x y=>(Cp e x).bind λxs=>(Cp e y).bind λys=>if xs.length+ys.length<=1000000 then some (.l (xs++ys)) else none
theorem HJ:iR K JG zF:=by
 intro σ H0 F H e x y z v u Q R A B hg q;unfold zF at hg;obtain⟨xs,h1,hg⟩:=Q6 hg;obtain⟨ys,h2,hg⟩:=Q6 hg;split at hg;case isFalse=>cases hg
 case isTrue hl=>cases hg;obtain⟨p,vs,rfl,f1,s1,d1⟩:=vF R A h1;obtain⟨p',us,rfl,f2,s2,d2⟩:=vF R B h2;have l1:=d1.len;have l2:=d2.len;have sl:RH=16777216:=SK;refine⟨p,p',vs,us,rfl,rfl,s1,s2,by lia,λt ht=>?_⟩;obtain⟨R3,X3,hF,no⟩:=R.newL (vs:=vs++us) ht;exact q _ _ _ X3 R3 ⟨t,_,rfl,ht,hF,au,d1.append d2,no⟩
def cP:En->Rv->Rv->Option Rv:=Ej zE (Ej qR zF)
def Hf(K:Rj):R2:=λx y H Q=>A8 (λi j=>.int (i+j)) x y H Q\/(Dr K x y H Q\/JG x y H Q)
theorem zN:iW X (Sx .Add) (Hf X.K):=Jc.or (Fk.or Jd)
theorem GO:iR K (Hf K) cP:=iR.or (mz λ_ _ _=>cq.mpr rfl) (iR.or HK HJ)
def B2:En->Rv->Rv->Option Rv:=λe x y=>match e_ e x,cG y with|some (false,[d]),some k=>if 0<=k/\k<=100000 then some (.d (.tuple (RF k.toNat d))) else none|_,_=>none
theorem aT.rep{F:Hp}{d:Rh}{v:V}(h:DA K F d v):∀n,aT K F (RF n d) (RF n v)|0=>aT.nil|n+1=>aT.cons h (aT.rep h n)
theorem JN:iR K (Dv K) B2:=by intro σ H0 F H e x y z v u Q R A B hg q;unfold B2 at hg;match h1:e_ e x,h2:cG y,hg with
 |some (false,[d]),some k,hg=>
  obtain⟨p,vs,rfl,d1,s1⟩:=dF R A h1;dsimp only at hg;split at hg;case isFalse=>cases hg
  case isTrue hl=>cases hg;have hd:=d1;simp only[aT]at hd;obtain⟨w,r,e1,hw,e2⟩:=hd;subst e2 e1;refine⟨p,k,w,rfl,df B h2,s1,hl.1,hl.2,λt H' sm hT=>?_⟩;obtain⟨F',R',X',hF⟩:=R.growT sm hT;exact q F' H' _ X' R' (cO.mpr ⟨t,_,rfl,hF,(aT.rep hw _).mono X'.sf⟩)
def B1:En->Rv->Rv->Option Rv:=λe x y=>(Cp e x).bind λxs=>(cG y).bind λk=>if-100000<=k/\k<=100000/\xs.length*k.toNat<=1000000 then some (.l (RF k.toNat xs).flatten) else none
theorem aT.reps{F:Hp}{ds:List Rh}{vs:List V}(h:aT K F ds vs):∀n,aT K F (RF n ds).flatten (RF n vs).flatten|0=>aT.nil|n+1=>by simpa[Uo]using aT.append h (aT.reps h n)
theorem JM:iR K JK B1:=by
 intro σ H0 F H e x y z v u Q R A B hg q;unfold B1 at hg;obtain⟨xs,h1,hg⟩:=Q6 hg;obtain⟨k,h2,hg⟩:=Q6 hg;split at hg;case isFalse=>cases hg
 case isTrue hl=>cases hg;obtain⟨p,vs,rfl,f1,s1,d1⟩:=vF R A h1;have l1:=d1.len;have sl:RH=16777216:=SK;refine⟨p,k,vs,rfl,df B h2,s1,by lia,by lia,by rw[<-l1];lia,λt ht=>?_⟩;obtain⟨R3,X3,hF,no⟩:=R.newL (vs:=(RF k.toNat vs).flatten) ht;exact q _ _ _ X3 R3 ⟨t,_,rfl,ht,hF,au,aT.reps d1 _,no⟩
def qV:En->Rv->Rv->Option Rv:=Ej BZ (Ej B2 B1)
def Hk(K:Rj):R2:=λx y H Q=>rI zl (λi j=>.int (i*j)) x y H Q\/(Dv K x y H Q\/JK x y H Q)
theorem Fs:iW X (Sx .Mult) (Hk X.K):=Ft.or (Fw.or Jm)
theorem K5:iR K (Hk K) qV:=iR.or IS (iR.or JN JM)
def G0:=gI (λ_ _=>true) λi j=>.bool (decide (i<j))
def N6:=gI (λ_ _=>true) λi j=>.bool (decide (i<=j))
def GY:=gI (λ_ _=>true) λi j=>.bool (decide (j<i))
def GX:=gI (λ_ _=>true) λi j=>.bool (decide (j<=i))
theorem MY:iR K (A8 λi j=>.bl (decide (i<j))) G0:=mz λ_ _ _=>cS.mpr rfl
theorem ML:iR K (A8 λi j=>.bl (decide (j<i))) GY:=mz λ_ _ _=>cS.mpr rfl
theorem MJ:iR K (A8 λi j=>.bl (decide (j<=i))) GX:=mz λ_ _ _=>cS.mpr rfl
def JI(K:Rj)(neg:Bool):R2:=λx y H Q=>∃a b,DA K H a x/\DA K H b y/\Sd a=true/\Sd b=true/\Q (.bl (if neg then !PyData.eqv a b else Th a b)) H
theorem Je{k:Nat}(hr:bX k X.A):iW X (SD .Eq) (JI X.K false):=by intro pins s σ H x y v u Q I rx ry h;obtain⟨a,b,ha,hb,s1,s2,q⟩:=h;obtain⟨as,ra⟩:=DA.reads I (VC s1) ha rx;obtain⟨bs,rb⟩:=DA.reads I (VC s2) hb ry;exact SeqAt.compareEq_shaped ra rb s1 s2 hr.units ⟨.bl _,H,I,rfl,q⟩
theorem Jk{k:Nat}(hr:bX k X.A):iW X (SD .NotEq) (JI X.K true):=by intro pins s σ H x y v u Q I rx ry h;obtain⟨a,b,ha,hb,s1,s2,q⟩:=h;obtain⟨as,ra⟩:=DA.reads I (VC s1) ha rx;obtain⟨bs,rb⟩:=DA.reads I (VC s2) hb ry;exact SeqAt.compareNe_shaped ra rb s1 s2 hr.units ⟨.bl _,H,I,rfl,q⟩
def bc(neg:Bool):En->Rv->Rv->Option Rv:=λe x y=>(iX e x).bind λa=>(iX e y).bind λb=>if (Sd a&&Sd b)=true then some (.d (.bool (if neg then !PyData.eqv a b else Th a b))) else none
theorem GV{neg:Bool}:iR K (JI K neg) (bc neg):=by
 intro σ H0 F H e x y z v u Q R A B hg q;unfold bc at hg;obtain⟨a,h1,hg⟩:=Q6 hg;obtain⟨b,h2,hg⟩:=Q6 hg;split at hg;case isFalse=>cases hg
 case isTrue hl=>cases hg;rw[Sr]at hl;exact⟨a,b,kN R A h1,kN R B h2,hl.1,hl.2,q F H _ (dX.refl _ _ _ _) R eU⟩
def JJ(K:Rj)(neg:Bool):R2:=λx y H Q=>∃a xs,DA K H a x/\(DA K H (.list xs) y\/DA K H (.tuple xs) y)/\a.canLay0=true/\a.depth<=60/\Tg xs=true/\Q (.bl (if neg then !(xs.any λy=>Th y a) else xs.any λy=>Th y a)) H
theorem Jf{k:Nat}(hr:bX k X.A):iW X (SD .In) (JJ X.K false):=by
 intro pins s σ H x y v u Q I rx ry h;obtain⟨a,xs,ha,hb,s1,s2,s3,q⟩:=h;obtain⟨as,ra⟩:=DA.reads I s1 ha rx;have hu:=hr.units;rcases hb with hb|hb;·obtain⟨bs,rb⟩:=DA.reads I (by simpa[Sn]using s3) hb ry;exact PySem.SeqAt.in_list_reads rb ra s3 s1 (by lia) ⟨.bl _,H,I,rfl,q⟩
 ·obtain⟨bs,rb⟩:=DA.reads I (by simpa[Sn]using s3) hb ry;exact PySem.SeqAt.in_tuple_reads rb ra s3 s1 (by lia) ⟨.bl _,H,I,rfl,q⟩
theorem AY{k:Nat}(hr:bX k X.A):iW X (SD .NotIn) (JJ X.K true):=by
 intro pins s σ H x y v u Q I rx ry h;obtain⟨a,xs,ha,hb,s1,s2,s3,q⟩:=h;obtain⟨as,ra⟩:=DA.reads I s1 ha rx;have hu:=hr.units;rcases hb with hb|hb;·obtain⟨bs,rb⟩:=DA.reads I (by simpa[Sn]using s3) hb ry;exact PySem.SeqAt.notIn_list_reads rb ra s3 s1 (by lia) ⟨.bl _,H,I,rfl,q⟩
 ·obtain⟨bs,rb⟩:=DA.reads I (by simpa[Sn]using s3) hb ry;exact PySem.SeqAt.notIn_tuple_reads rb ra s3 s1 (by lia) ⟨.bl _,H,I,rfl,q⟩
def yf(neg:Bool):En->Rv->Rv->Option Rv:=λe x y=>(iX e x).bind λa=>(e_ e y).bind λp=>if (a.canLay0&&decide (a.depth<=60)&&Tg p.2)=true then some (.d (.bool (if neg then !(p.2.any λy=>Th y a) else p.2.any λy=>Th y a))) else none
theorem KD{neg:Bool}:iR K (JJ K neg) (yf neg):=by
 intro σ H0 F H e x y z v u Q R A B hg q;unfold yf at hg;obtain⟨a,h1,hg⟩:=Q6 hg;obtain⟨⟨b,xs⟩,h2,hg⟩:=Q6 hg;split at hg;case isFalse=>cases hg
 case isTrue hl=>cases hg;rw[Sr,Sr,decide_eq_true_iff]at hl;obtain⟨p,vs,rfl,d1,s1⟩:=dF R B h2;refine⟨a,xs,kN R A h1,?_,hl.1.1,hl.1.2,hl.2,q F H _ (dX.refl _ _ _ _) R eU⟩;cases b with|true=>exact .inl (eC.mpr ⟨p,vs,rfl,s1,d1.mono R.sm⟩)|false=>exact .inr (cO.mpr ⟨p,vs,rfl,s1,d1.mono R.sm⟩)
def vo:Rh->Bool|.none=>true|_=>false
theorem tW{F:Hp}{d:Rh}{v:V}(h:DA K F d v):decide (v=.non)=vo d:=by cases d with|none=>rw[fZ.mp h];rfl|bool b=>rw[cS.mp h];rfl|int b=>rw[cq.mp h];rfl|str b=>rw[jQ.mp h];rfl|tuple b=>obtain⟨a,_,e,_⟩:=cO.mp h;rw[e];rfl|list b=>obtain⟨a,_,e,_⟩:=eC.mp h;rw[e];rfl|dict b=>simp only[DA]at h;obtain⟨a,m,rfl,_⟩:=h;rfl
def AF(neg:Bool):En->Rv->Rv->Option Rv:=λe x y=>(iX e x).bind λa=>match y with|.d .none=>some (.d (.bool (if neg then !vo a else vo a)))|_=>none
def AE(neg:Bool):En->Rv->Rv->Option Rv:=λe x y=>(c_ x).bind λa=>(c_ y).bind λb=>some (.d (.bool (if neg then !(a==b) else a==b)))
theorem KH:iR K (λx y H Q=>y=.non/\Q (.bl (decide (x=.non))) H) (AF false):=by
 intro σ H0 F H e x y z v u Q R A B hg q;unfold AF at hg;obtain⟨a,h1,hg⟩:=Q6 hg;split at hg;·cases hg;refine⟨fZ.mp (show DA K F .none u from B),?_⟩;rw[tW (kN R A h1)];exact q F H _ (dX.refl _ _ _ _) R eU
 ·cases hg
theorem IX:iR K (λx y H Q=>y=.non/\Q (.bl (!decide (x=.non))) H) (AF true):=by
 intro σ H0 F H e x y z v u Q R A B hg q;unfold AF at hg;obtain⟨a,h1,hg⟩:=Q6 hg;split at hg;·cases hg;refine⟨fZ.mp (show DA K F .none u from B),?_⟩;rw[tW (kN R A h1)];exact q F H _ (dX.refl _ _ _ _) R eU
 ·cases hg
theorem KG:iR K (λx y H Q=>∃b c,x=.bl b/\y=.bl c/\Q (.bl (b==c)) H) (AE false):=by intro σ H0 F H e x y z v u Q R A B hg q;unfold AE at hg;obtain⟨a,h1,hg⟩:=Q6 hg;obtain⟨b,h2,hg⟩:=Q6 hg;cases hg;exact⟨a,b,io A h1,io B h2,q F H _ (dX.refl _ _ _ _) R eU⟩
theorem B_:iR K (λx y H Q=>∃b c,x=.bl b/\y=.bl c/\Q (.bl (!(b==c))) H) (AE true):=by intro σ H0 F H e x y z v u Q R A B hg q;unfold AE at hg;obtain⟨a,h1,hg⟩:=Q6 hg;obtain⟨b,h2,hg⟩:=Q6 hg;cases hg;exact⟨a,b,io A h1,io B h2,q F H _ (dX.refl _ _ _ _) R eU⟩
def Kf:En->Rv->Rv->Option Rv:=Ej (AF false) (AE false)
def mx:En->Rv->Rv->Option Rv:=Ej (AF true) (AE true)
def Lp:R2:=λx y H Q=>(y=.non/\Q (.bl (decide (x=.non))) H)\/∃b c,x=.bl b/\y=.bl c/\Q (.bl (b==c)) H
def zW:R2:=λx y H Q=>(y=.non/\Q (.bl (!decide (x=.non))) H)\/∃b c,x=.bl b/\y=.bl c/\Q (.bl (!(b==c))) H
theorem Jg:iW X (SD .Is) Lp:=Ji.or Jh
theorem AW:iW X (SD .IsNot) zW:=Fv.or AX
theorem MQ:iR K Lp Kf:=iR.or KH KG
theorem EO:iR K zW mx:=iR.or IX B_
def dI:En->Rv->Rv->Option Rv:=λe x y=>(e_ e x).bind λp=>(cG y).bind λi=>(atI p.2 i).map .d
def Lq(K:Rj):R2:=λx y H Q=>Lr K x y H Q\/Ls K x y H Q
theorem KN:Er X (Lq X.K):=zK.or Ig
theorem aT.atI{F:Hp}{ds:List Rh}{vs:List V}(h:aT K F ds vs){i:Int}{d:Rh}(q:atI ds i=some d):∃v,L2.atI vs i=some v/\DA K F d v:=by unfold L2.atI at q⊢;obtain⟨j,h1,h2⟩:=Q6 q;obtain⟨v,h3,h4⟩:=h.get h2;exact⟨v,by rw[<-h.len,h1];exact h3,h4⟩
theorem KO:iR K (Lq K) dI:=by intro σ H0 F H e x y z v u Q R A B hg q;unfold dI at hg;obtain⟨⟨b,xs⟩,h1,hg⟩:=Q6 hg;obtain⟨i,h2,hg⟩:=Q6 hg;obtain⟨d,h3,hg⟩:=Q7 hg;cases hg;obtain⟨p,vs,rfl,d1,s1⟩:=dF R A h1;obtain⟨w,h4,h5⟩:=d1.atI h3;have fin:=q F H w (dX.refl _ _ _ _) R h5;cases b with|true=>exact .inl ⟨p,vs,i,w,rfl,df B h2,s1,h4,fin⟩|false=>exact .inr ⟨p,vs,i,w,rfl,df B h2,s1,h4,fin⟩
end
end L2
namespace HT
open PySem PySem.Spec PyProof.Rows
section
variable{prog:Rw}{w:Ro}{A:Rz}{E:Oq->Rg->Prop}{s:Rg}
theorem getItem_tuple_all{t sl:xM}{items:Array Oq}{vl vu:Oq}{lo hi:Option Int}{Q:Oq->Rg->Prop}(ht:IsTup s.heap t items)(hs:s.heap.IsSliceOf sl vl vu .none)(pl:IsPart vl lo)(pu:IsPart vu hi)(hw:sIx items.size 0 lo=0/\sIx items.size items.size hi=items.size)(h:Q (.ref t) s):Rr (Ry prog w) A (getItem (.ref t) (.ref sl)) Q E s:=by
 obtain⟨os,hos,hcs,hds⟩:=id hs;have hTs:s.TypeIs (.ref sl) "slice":=⟨os,hos,hcs⟩;unfold getItem;try with_reducible refine wpAny_holding ?_
 first|refine Rq (RG ?_)|skip
 refine Rq (wpAny_sequenceKey ht.typeIs (by decide) ?_);refine Rq (UJ (name:=Rm "__getitem__") ht.typeIs Uw (Ux Uw ht.typeIs entry_tuple_getitem ?_ (args_tuple_getitem _ _)));show Rr _ _ (Wo (.ref t)>>=_) _ _ s;refine Rq (tupleItemsOf_ ht ?_);refine Rq (wpAny_typeOf hTs ?_);rw[if_pos (by decide)];refine Rq (jE hs pl pu ?_);have hno:(((sIx items.size 0 lo:Nat):Int)==0&&(1:Int)==1&&(sIx items.size items.size hi-sIx items.size 0 lo)==items.size)=true:=by rw[hw.1,hw.2];simp
 show Rr _ _ (if (((sIx items.size 0 lo:Nat):Int)==0&&(1:Int)==1&&(sIx items.size items.size hi-sIx items.size 0 lo)==items.size)=true then _ else _) _ _ s;rw[if_pos hno];unfold Builtin.Tuple.tupleIsExact;refine Rq (Rq (wpAny_typeOf ht.typeIs (RG ?_)));rw[if_pos (by decide)];exact Rq (wpAny_rule (RG ⟨_,rfl,RG h⟩))
end
end HT
namespace L2
open PySem PySem.Spec PyProof.Rows
section
variable{X:Cx}{K:Rj}{a:Rl}{fa:FE}{lo hi:Option Rl}{pos p2:Pos}
def cutD(xs:List Rh)(lo hi:Option Int):List Rh:=(xs.drop (HT.sIx xs.length 0 lo)).take (HT.sIx xs.length xs.length hi-HT.sIx xs.length 0 lo)
def Ly(K:Rj):V->Option Int->Option Int->Hp->VK->Prop:=λx lo hi H Q=>∃a xs,x=.ref a/\ff K H a xs/\(HT.sIx xs.length 0 lo=0/\HT.sIx xs.length xs.length hi=xs.length)/\Q (.ref a) H
theorem Gi:Ee X (Ly X.K):=by
 intro pins s σ H x v vl vu lo hi sl Q I rx hs pl pu h;obtain⟨a,xs,rfl,hx,hw,q⟩:=h;cases rx;obtain⟨its,r,ht,hz⟩:=I.tuple hx;have hlen:its.toArray.size=xs.length:=by rw[RV];exact r.length.symm
 refine⟨"tuple",_,Uw.lookup,ht.typeIs,?_⟩;exact HT.getItem_tuple_all ht hs pl pu (by rw[hlen];exact hw) ⟨.ref a,H,I,rfl,q⟩
def M0(K:Rj):V->Option Int->Option Int->Hp->VK->Prop:=λx lo hi H Q=>Lw K x lo hi H Q\/(Ly K x lo hi H Q\/Lv K x lo hi H Q)
theorem LD:Ee X (M0 X.K):=JR.or (Gi.or Gh)
abbrev FO:=En->Option (Option Int×En)
def fO(K:Rj)(f:FO):TO:=λσ H Q=>∃F e o e',bf K F H σ e/\f e=some (o,e')/\∀F' H',dX σ F H e F' H' e'->bf K F' H' σ e'->Q o H'
theorem PO.mono{e:Option Rl}{t t':TO}(h:PO X e t)(m:∀σ H Q,t' σ H Q->t σ H Q):PO X e t':=λpins s σ H Q I q=>h pins s σ H Q I (m σ H Q q)
def gU:FO:=λe=>some (none,e)
def gG(f:FE):FO:=λe=>(f e).bind λp=>(cG p.1).map λi=>(some i,p.2)
theorem j7:PO X none (fO K gU):=FK.mono λσ H Q h=>by obtain⟨F,e,o,e',R,hf,q⟩:=h;cases hf;exact q F H (dX.refl _ _ _ _) R
theorem j8(h:PE X a (fE K fa)):PO X (some a) (fO K (gG fa)):=(FL h).mono λσ H Q h=>by obtain⟨F,e,o,e',R,hf,q⟩:=h;unfold gG at hf;obtain⟨⟨x,e1⟩,h1,hf⟩:=Q6 hf;obtain⟨i,h2,hf⟩:=Q7 hf;cases hf;exact⟨F,e,x,_,R,h1,λF1 H1 v X1 R1 A1=>⟨i,df A1 h2,q F1 H1 X1 R1⟩⟩
def HX(e:En)(x:Rv)(lo hi:Option Int):Option Rv:=(e_ e x).map λp=>if p.1=true then .l (cutD p.2 lo hi) else .d (.tuple (cutD p.2 lo hi))
def yg(fa:FE)(fl fh:FO):FE:=λe=>(fa e).bind λp=>(fl p.2).bind λl=>(fh l.2).bind λh=>(HX h.2 p.1 l.1 h.1).map λz=>(z,h.2)
theorem u_{F:Hp}{ds:List Rh}{vs:List V}(h:aT K F ds vs)(lo hi:Option Int):aT K F (cutD ds lo hi) (qd vs lo hi):=by unfold cutD qd;rw[h.len];exact(h.drop _).take _
theorem zC{α:Type}{xs:List α}{lo hi:Option Int}(h:HT.sIx xs.length 0 lo=0/\HT.sIx xs.length xs.length hi=xs.length):(xs.drop (HT.sIx xs.length 0 lo)).take (HT.sIx xs.length xs.length hi-HT.sIx xs.length 0 lo)=xs:=by rw[h.1,h.2];simp
theorem Dl{fl fh:FO}(he:PE X a (fE X.K fa))(hl:PO X lo (fO X.K fl))(hh:PO X hi (fO X.K fh)):PE X (.Subscript a (.Slice lo hi none p2) pos) (fE X.K (yg fa fl fh)):=(rG LD he hl hh).mono λσ H Q h=>by obtain⟨F,e,z,e',R,hf,q⟩:=h;unfold yg at hf;obtain⟨⟨x,e1⟩,h1,hf⟩:=Q6 hf;obtain⟨⟨l,e2⟩,h2,hf⟩:=Q6 hf;obtain⟨⟨u,e3⟩,h3,hf⟩:=Q6 hf;obtain⟨z',h4,hf⟩:=Q7 hf;cases hf;refine⟨F,e,x,e1,R,h1,λF1 H1 v X1 R1 A1=>⟨F1,e1,l,e2,R1,h2,λF2 H2 X2 R2=>⟨F2,e2,u,_,R2,h3,λF3 H3 X3 R3=>?_⟩⟩⟩;have X12:=X1.trans X2;have X13:=X12.trans X3;have A3:=(A1.ext X2).ext X3;unfold HX at h4;obtain⟨⟨b,xs⟩,h5,h4⟩:=Q7 h4;obtain⟨p,vs,rfl,d1,s1⟩:=dF R3 A3 h5;cases b with|true=>rw[if_pos rfl]at h4;cases h4;refine .inr (.inr ⟨p,vs,rfl,s1,λt ht=>?_⟩);obtain⟨R4,X4,hF,no⟩:=R3.newL (vs:=qd vs l u) ht;exact q _ _ _ (X13.trans X4) R4 ⟨t,_,rfl,X13.dom _ ht,hF,au,u_ d1 l u,no⟩|false=>
 rw[if_neg (by simp)]at h4;cases h4;by_cases hw:HT.sIx vs.length 0 l=0/\HT.sIx vs.length vs.length u=vs.length
 ·refine .inr (.inl ⟨p,vs,rfl,s1,hw,?_⟩);have e5:cutD xs l u=xs:=by unfold cutD;exact zC (by rw[d1.len];exact hw)
  rw[e5]at q;obtain⟨F4,R4,X4,hF⟩:=R3.growT (ao.refl _) s1;exact q _ _ _ (X13.trans X4) R4 (cO.mpr ⟨p,vs,rfl,hF,d1.mono X4.sf⟩)
 ·refine .inl ⟨p,vs,rfl,s1,hw,λt ht=>?_⟩;obtain⟨R4,X4⟩:=R3.newT (vs:=qd vs l u) ht;exact q _ _ _ (X13.trans X4) R4 (cO.mpr ⟨t,_,rfl,.inl (.inl au),(u_ d1 l u).mono X4.sf⟩)
end
section
variable{X:Cx}{K:Rj}
theorem vZ{σ:L2.St}{H0 F H:Hp}{e:En}{x:Rv}{vs:List V}(h:eB K σ H0 F H e [x] vs):∃v,vs=[v]/\cF K σ H0 F H e x v:=by obtain⟨v,ws,rfl,h1,h2⟩:=h;have h2':ws=[]:=h2;subst h2';exact⟨v,rfl,h1⟩
theorem z_{σ:L2.St}{H0 F H:Hp}{e:En}{x y:Rv}{vs:List V}(h:eB K σ H0 F H e [x,y] vs):∃v u,vs=[v,u]/\cF K σ H0 F H e x v/\cF K σ H0 F H e y u:=by obtain⟨v,ws,rfl,h1,h2⟩:=h;obtain⟨u,rfl,h3⟩:=vZ h2;exact⟨v,u,rfl,h1,h3⟩
def g1(g:En->Rv->Option Rv):En->List Rv->Option Rv:=λe xs=>match xs with|[x]=>g e x|_=>none
def g2(g:En->Rv->Rv->Option Rv):En->List Rv->Option Rv:=λe xs=>match xs with|[x,y]=>g e x y|_=>none
theorem fY{r:List V->Hp->VK->Prop}{g:En->Rv->Option Rv}(h:Ka K (λv H Q=>r [v] H Q) g):dH K r (g1 g):=by intro σ H0 F H e xs z vs Q R A hg q;unfold g1 at hg;match xs,hg with|[x],hg=>obtain⟨v,rfl,h1⟩:=vZ A;exact h σ H0 F H e x z v Q R h1 hg q
theorem zz{r:List V->Hp->VK->Prop}{g:En->Rv->Rv->Option Rv}(h:iR K (λv u H Q=>r [v,u] H Q) g):dH K r (g2 g):=by intro σ H0 F H e xs z vs Q R A hg q;unfold g2 at hg;match xs,hg with|[x,y],hg=>obtain⟨v,u,rfl,h1,h2⟩:=z_ A;exact h σ H0 F H e x y z v u Q R h1 h2 hg q
def iT:En->Rv->Option Rv:=λe x=>(e_ e x).map λp=>.d (.int p.2.length)
theorem KR:dH K (λxs H Q=>∃p ys,xs=[.ref p]/\(fX K H p ys\/ff K H p ys)/\Q (.int ys.length) H) (g1 iT):=fY λσ H0 F H e x z v Q R A hg q=>by
 obtain⟨⟨b,xs⟩,h5,h4⟩:=Q7 hg;obtain⟨p,vs,rfl,d1,s1⟩:=dF R A h5;cases h4;refine⟨p,vs,rfl,?_,?_⟩;·cases b with|true=>exact .inl s1|false=>exact .inr s1
 ·rw[<-d1.len];exact q F H _ (dX.refl _ _ _ _) R rT
def AD:En->Rv->Option Rv:=λ_ x=>(cG x).map λi=>.d (.int (if i<0 then-i else i))
theorem Kn:dH K (λxs H Q=>∃i,xs=[.int i]/\Q (.int (if i<0 then-i else i)) H) (g1 AD):=fY λσ H0 F H e x z v Q R A hg q=>by obtain⟨i,h5,h4⟩:=Q7 hg;cases h4;exact⟨i,by rw[df A h5],q F H _ (dX.refl _ _ _ _) R rT⟩
def yx:En->Rv->Option Rv:=λ_ x=>match x with|.d (.int i)=>some (.d (.int i))|.d (.bool k)=>some (.d (.int (if k then 1 else 0)))|_=>none
theorem KF:dH K (λxs H Q=>(∃i,xs=[.int i]/\Q (.int i) H)\/∃k,xs=[.bl k]/\Q (.int (if k then 1 else 0)) H) (g1 yx):=fY λσ H0 F H e x z v Q R A hg q=>by
 unfold yx at hg;split at hg;·cases hg;exact .inl ⟨_,by rw[cq.mp (show DA K F (.int _) v from A)],q F H _ (dX.refl _ _ _ _) R rT⟩
 ·cases hg;exact .inr ⟨_,by rw[cS.mp (show DA K F (.bool _) v from A)],q F H _ (dX.refl _ _ _ _) R rT⟩
 ·cases hg
def BY:=gI (λ_ _=>true) λi j=>.int (if j<i then j else i)
def AH:=gI (λ_ _=>true) λi j=>.int (if j>i then j else i)
theorem K3:dH K (λxs H Q=>∃i j,xs=[.int i,.int j]/\Q (.int (if j<i then j else i)) H) (g2 BY):=zz λσ H0 F H e x y z v u Q R A B hg q=>by obtain⟨i,j,h1,h2,h3⟩:=mz (K:=K) (g:=λi j=>.int (if j<i then j else i)) (λ_ _ _=>cq.mpr rfl) σ H0 F H e x y z v u Q R A B hg q;exact⟨i,j,by rw[h1,h2],h3⟩
theorem K2:dH K (λxs H Q=>∃i j,xs=[.int i,.int j]/\Q (.int (if j>i then j else i)) H) (g2 AH):=zz λσ H0 F H e x y z v u Q R A B hg q=>by obtain⟨i,j,h1,h2,h3⟩:=mz (K:=K) (g:=λi j=>.int (if j>i then j else i)) (λ_ _ _=>cq.mpr rfl) σ H0 F H e x y z v u Q R A B hg q;exact⟨i,j,by rw[h1,h2],h3⟩
def eL:En->Rv->Option Rv:=λe x=>(e_ e x).map λp=>.d (.tuple p.2)
theorem Gy:dH K (λxs H Q=>∃p ys,xs=[.ref p]/\((fX K H p ys/\∀l,H l=none->Q (.ref l) (bg H l (.tup ys)))\/(ff K H p ys/\Q (.ref p) H))) (g1 eL):=fY λσ H0 F H e x z v Q R A hg q=>by obtain⟨⟨b,xs⟩,h5,h4⟩:=Q7 hg;obtain⟨p,vs,rfl,d1,s1⟩:=dF R A h5;cases h4;refine⟨p,vs,rfl,?_⟩;cases b with|true=>refine .inl ⟨s1,λt ht=>?_⟩;obtain⟨R4,X4⟩:=R.newT (vs:=vs) ht;exact q _ _ _ X4 R4 (cO.mpr ⟨t,_,rfl,.inl (.inl au),d1.mono X4.sf⟩)|false=>obtain⟨F4,R4,X4,hF⟩:=R.growT (ao.refl _) s1;exact .inr ⟨s1,q _ _ _ X4 R4 (cO.mpr ⟨p,vs,rfl,hF,d1.mono X4.sf⟩)⟩
def GZ:En->Rv->Option Rv:=λe x=>(e_ e x).map λp=>.l p.2
theorem IK:dH K (λxs H Q=>∃p ys,xs=[.ref p]/\(fX K H p ys\/ff K H p ys)/\∀l,H l=none->Q (.ref l) (bg H l (.lst ys))) (g1 GZ):=fY λσ H0 F H e x z v Q R A hg q=>by
 obtain⟨⟨b,xs⟩,h5,h4⟩:=Q7 hg;obtain⟨p,vs,rfl,d1,s1⟩:=dF R A h5;cases h4;refine⟨p,vs,rfl,?_,λt ht=>?_⟩;·cases b with|true=>exact .inl s1|false=>exact .inr s1
 ·obtain⟨R4,X4,hF,no⟩:=R.newL (vs:=vs) ht;exact q _ _ _ X4 R4 ⟨t,_,rfl,ht,hF,au,d1,no⟩
def t9:List Rh->Option (List Int)|[]=>some []|.int i::r=>(t9 r).map (i::·)|_=>none
theorem q_:∀{ds:List Rh}{ns:List Int},t9 ds=some ns->ds=ns.map .int|[],_,h=>by cases h;rfl|.int i::r,_,h=>by obtain⟨ns,h1,rfl⟩:=Q7 h;rw[q_ h1];rfl
theorem oV:∀(ns:List Int),t9 (ns.map .int)=some ns|[]=>rfl|i::r=>by simp[t9,oV r]
def uS:List Rh->Option (List Bool)|[]=>some []|.bool i::r=>(uS r).map (i::·)|_=>none
theorem tT:∀{ds:List Rh}{ns:List Bool},uS ds=some ns->ds=ns.map .bool|[],_,h=>by cases h;rfl|.bool i::r,_,h=>by obtain⟨ns,h1,rfl⟩:=Q7 h;rw[tT h1];rfl
def jm(g:List Rh->Option Rh):En->Rv->Option Rv:=λe x=>match e_ e x with|some (true,xs)=>(g xs).map .d|_=>none
theorem DR{r:List V->Hp->VK->Prop}{g:List Rh->Option Rh}(h:∀(F H:Hp) (p:xM) (xs:List Rh) (vs:List V) (d:Rh) (Q:VK),aT K F xs vs->fX K H p vs->g xs=some d->(∀v,(∀F,DA K F d v)->Q v H)->r [.ref p] H Q):dH K r (g1 (jm g)):=fY λσ H0 F H e x z v Q R A hg q=>by
 unfold jm at hg;split at hg;case h_2=>cases hg
 case h_1 xs h5=>obtain⟨p,vs,rfl,d1,s1⟩:=dF R A h5;obtain⟨d,h6,hg⟩:=Q7 hg;cases hg;exact h F H p xs vs d Q d1 s1 h6 λv hv=>q F H v (dX.refl _ _ _ _) R (hv F)
def tZ:List Rh->Option Rh:=λxs=>(t9 xs).map λns=>.int ns.sum
theorem LI:dH K (λxs H Q=>∃(l:xM) (ns:List Int),xs=[.ref l]/\fX K H l (ns.map V.int)/\Q (.int ns.sum) H) (g1 (jm tZ)):=DR λF H p xs vs d Q d1 s1 hg q=>by obtain⟨ns,h1,h2⟩:=Q7 hg;cases h2;rw[q_ h1]at d1;rw[aT.ints.mp d1]at s1;exact⟨p,ns,rfl,s1,q _ λ_=>cq.mpr rfl⟩
def wY:List Rh->Option Rh:=λxs=>(uS xs).map λns=>.bool (ns.all id)
theorem Ko:dH K (λxs H Q=>∃(l:xM) (bs:List Bool),xs=[.ref l]/\fX K H l (bs.map V.bl)/\Q (.bl (bs.all id)) H) (g1 (jm wY)):=DR λF H p xs vs d Q d1 s1 hg q=>by obtain⟨ns,h1,h2⟩:=Q7 hg;cases h2;rw[tT h1]at d1;rw[aT.bools.mp d1]at s1;exact⟨p,ns,rfl,s1,q _ λ_=>cS.mpr rfl⟩
def fB:En->Rv->Option Rv:=λe x=>match e_ e x with|some (false,xs)=>(t9 xs).bind λns=>if ns.length<64 then some (.l ((jF ns).map .int)) else none|_=>none
def Dw(K:Rj):List V->Hp->VK->Prop:=λxs H Q=>∃(a:xM) (ns:List Int),xs=[.ref a]/\ff K H a (ns.map V.int)/\ns.length<64/\∀(l:xM) (H':Hp),ao H H'->H l=none->H' l=some (.lst ((jF ns).map V.int))->Q (.ref l) H'
theorem yq:dN X (.builtin "sorted") (Dw X.K):=by intro pins s σ H xs us Q I rv h;obtain⟨a,ns,e1,e2,e3,q⟩:=h;exact wJ pins s σ H xs us Q I rv ⟨a,ns,e1,e2,e3,λl ns' H' sm hn hl hp hs=>q l H' sm hn (by rw[<-DV hp hs];exact hl)⟩
theorem Gj:dH K (Dw K) (g1 fB):=fY λσ H0 F H e x z v Q R A hg q=>by
 unfold fB at hg;split at hg;case h_2=>cases hg
 case h_1 xs h5=>
 obtain⟨p,vs,rfl,d1,s1⟩:=dF R A h5;obtain⟨ns,h6,hg⟩:=Q6 hg;split at hg;case isFalse=>cases hg
 case isTrue hl=>cases hg;rw[q_ h6]at d1;have s1':ff K H p vs:=s1;rw[aT.ints.mp d1]at s1';refine⟨p,ns,rfl,s1',hl,λl H' sm hn hl'=>?_⟩;obtain⟨R4,X4⟩:=R.same sm;exact q F H' _ X4 R4 ⟨l,_,rfl,hn,R.freeF hn,hl',aT.ints.mpr rfl,λz=>R.ownH l ((R.sameOwn sm l).mp z) hn⟩
mutual
def gy:Rh->Bool|.tuple ds=>bJ ds|.list _=>false|.dict _=>false|_=>true
def bJ:List Rh->Bool|[]=>true|d::r=>gy d&&bJ r
end
mutual
def CB:Rh->Bool|.list _=>false|.tuple ds=>xn ds|_=>true
def xn:List Rh->Bool|[]=>true|d::r=>CB d&&xn r
end
end
section
variable{K:Rj}{σ:L2.St}{H0 F H F' H':Hp}{e e':En}
theorem bf.upd1(R:bf K F H σ e){σ':L2.St}(i:Nat)(hl:σ'.length=e'.length)(hσ:∀j,j≠i->σ'[j]?=σ[j]?)(he:∀j,j≠i->e'[j]?=e[j]?)(sF:ao F F')(sm:ao F' H')(hf:∀j a,j≠i->Fp σ e H j a->F' a=none)(hh:∀j a o,j≠i->Fp σ e H j a->H a=some o->H' a=some o)(hd:∀x,e'[i]?=some (some (.d x))->∃v,σ'[i]?=some (some v)/\DA K F' x v)(ho:∀xs,e'[i]?=some (some (.l xs))->∃l vs,σ'[i]?=some (some (.ref l))/\F' l=none/\H' l=some (.lst vs)/\aT K F' xs vs)(hn:∀xss,e'[i]?=some (some (.n xss))->∃(l:xM) (bs:List xM),σ'[i]?=some (some (.ref l))/\F' l=none/\H' l=some (.lst (bs.map V.ref))/\bs.length=xss.length/\bs.Nodup/\l∉bs/\∀(k:Nat) (b:xM) (ys:List Rh),bs[k]?=some b->xss[k]?=some ys->F' b=none/\∃us,H' b=some (.lst us)/\aT K F' ys us)(hi:∀a j,j≠i->Fp σ' e' H' i a->¬Fp σ e H j a):bf K F' H' σ' e'/\∀j a,j≠i->(Fp σ' e' H' j a↔Fp σ e H j a):=by
 have fs:∀j a,j≠i->(Fp σ' e' H' j a↔Fp σ e H j a):=by
  intro j a hj;have key:∀xss l,e[j]?=some (some (.n xss))->σ[j]?=some (some (.ref l))->H' l=H l:=λxss l h1 h2=>by obtain⟨l',bs,g1,g2,g3,_⟩:=R.nst j xss h1;rw[h2]at g1;cases g1;rw[g3];exact hh j l _ hj (.inr ⟨xss,l,bs,h1,h2,g3,.inl rfl⟩) g3
  unfold Fp;rw[he j hj,hσ j hj];constructor
  ·rintro(h1|⟨xss,l,bs,h1,h2,h3,h4⟩);·exact .inl h1
   ·exact .inr ⟨xss,l,bs,h1,h2,by rw[<-key xss l h1 h2];exact h3,h4⟩
  ·rintro(h1|⟨xss,l,bs,h1,h2,h3,h4⟩);·exact .inl h1
   ·exact .inr ⟨xss,l,bs,h1,h2,by rw[key xss l h1 h2];exact h3,h4⟩
 refine⟨⟨sm,hl,λj x q=>?_,λj xs q=>?_,λj xss q=>?_,λj k a q1 q2=>?_⟩,fs⟩
 ·by_cases z:j=i;·subst z;exact hd x q
  ·rw[he j z]at q;obtain⟨v,h1,h2⟩:=R.dat j x q;exact⟨v,by rw[hσ j z];exact h1,DA.mono sF h2⟩
 ·by_cases z:j=i;·subst z;exact ho xs q
  ·rw[he j z]at q;obtain⟨l,vs,h1,h2,h3,h4⟩:=R.own j xs q;have o:Fp σ e H j l:=.inl ⟨xs,q,h1⟩;exact⟨l,vs,by rw[hσ j z];exact h1,hf j l z o,hh j l _ z o h3,h4.mono sF⟩
 ·by_cases z:j=i;·subst z;exact hn xss q
  ·rw[he j z]at q;obtain⟨l,bs,h1,h2,h3,h4,h5,h6,h7⟩:=R.nst j xss q;have o:Fp σ e H j l:=.inr ⟨xss,l,bs,q,h1,h3,.inl rfl⟩;refine⟨l,bs,by rw[hσ j z];exact h1,hf j l z o,hh j l _ z o h3,h4,h5,h6,λk b ys g1 g2=>?_⟩;obtain⟨c1,us,c2,c3⟩:=h7 k b ys g1 g2;have ob:Fp σ e H j b:=.inr ⟨xss,l,bs,q,h1,h3,.inr (Rf g1)⟩;exact⟨hf j b z ob,us,hh j b _ z ob c2,c3.mono sF⟩
 ·by_cases zj:j=i
  ·subst zj;by_cases zk:k=j;·exact zk.symm
   ·exact absurd ((fs k a zk).mp q2) (hi a k zk q1)
  ·by_cases zk:k=i;·subst zk;exact absurd ((fs j a zj).mp q1) (hi a j zj q2)
   ·exact R.fp j k a ((fs j a zj).mp q1) ((fs k a zk).mp q2)
theorem bf.putL(R:bf K F H σ e){i:Nat}{xs ys:List Rh}{l:xM}{vs:List V}(hi:e[i]?=some (some (.l xs)))(hl:σ[i]?=some (some (.ref l)))(hd:aT K F ys vs):bf K F (bg H l (.lst vs)) σ (e.set i (some (.l ys)))/\dX σ F H e F (bg H l (.lst vs)) (e.set i (some (.l ys))):=by
 obtain⟨l',vs',h1,h2,h3,h4⟩:=R.own i xs hi;rw[hl]at h1;cases h1;have hlt:i<e.length:=(Q8 hi).1;have fi:Fp σ e H i l:=.inl ⟨xs,hi,hl⟩;have gi:(e.set i (some (Sv.l ys)))[i]?=some (some (.l ys)):=Sj hlt;obtain⟨R',fs⟩:=R.upd1 (F':=F) (H':=bg H l (.lst vs)) (e':=e.set i (some (.l ys))) i (by rw[UB];exact R.len) (λ_ _=>rfl) (λj hj=>RI (RJ hj)) (ao.refl F) (λb o q=>by
  have z:b≠l:=λz=>by rw[z,h2]at q;cases q
  rw[av z];exact R.sm b o q) (λj a _ q=>(R.fpAt q).1) (λj a o hj q ha=>by have z:a≠l:=λz=>hj (R.fp j i a q (by rw[z];exact fi));rw[av z];exact ha) (λx q=>by rw[gi]at q;cases q) (λzs q=>by rw[gi]at q;cases q;exact⟨l,vs,hl,h2,au,hd⟩) (λxss q=>by rw[gi]at q;cases q) (λa j hj q q2=>by
  rcases q with⟨zs,_,q⟩|⟨xss,_,_,q,_⟩;·rw[hl]at q;cases q;exact hj (R.fp j i _ q2 fi)
  ·rw[gi]at q;cases q);refine⟨R',⟨ao.refl _,λa q=>?_,λ_ _ q _ _=>q,λa ws q=>?_,λa o q n=>?_,λj=>?_,λa⟨j,q⟩=>?_,λ_ _ q _ _=>q⟩⟩
 ·by_cases z:a=l;·rw[z,au]at q;cases q
  ·rw[av z]at q;exact q
 ·by_cases z:a=l;·rw[z];exact⟨vs,au⟩
  ·rw[av z];exact⟨ws,q⟩
 ·have z:a≠l:=λz=>n ⟨i,by rw[z];exact fi⟩;rw[av z];exact q
 ·by_cases z:j=i;·subst z;rw[gi];exact⟨λ_=>⟨xs,hi⟩,λ_=>⟨ys,rfl⟩⟩
  ·rw[RI (RJ z)]
 ·by_cases z:j=i
  ·subst z;rcases q with⟨zs,_,q⟩|⟨xss,_,_,q,_⟩;·rw[hl]at q;cases q;exact .inl ⟨j,fi⟩
   ·rw[gi]at q;cases q
  ·exact .inl ⟨j,(fs j a z).mp q⟩
theorem bf.setD(R:bf K F H σ e)(i:Nat){x:Rh}{v:V}(h:DA K F x v):bf K F H (σ.set i (some v)) (e.set i (some (.d x)))/\∀a,bi (σ.set i (some v)) (e.set i (some (.d x))) H a->bi σ e H a:=by
 have gi:∀s,(e.set i (some (Sv.d x)))[i]?=some (some s)->s=.d x/\i<e.length:=λs q=>by
  have hlt:i<e.length:=by have:=(Q8 q).1;simpa using this
  rw[Sj hlt]at q;exact⟨(SB (SB q)).symm,hlt⟩
 have nofp:∀a,¬Fp (σ.set i (some v)) (e.set i (some (.d x))) H i a:=λa q=>by
  rcases q with⟨zs,q,_⟩|⟨xss,_,_,q,_⟩;·cases (gi _ q).1
  ·cases (gi _ q).1
 obtain⟨R',fs⟩:=R.upd1 (F':=F) (H':=H) (σ':=σ.set i (some v)) (e':=e.set i (some (.d x))) i (by rw[UB,UB];exact R.len) (λj hj=>RI (RJ hj)) (λj hj=>RI (RJ hj)) (ao.refl F) R.sm (λj a _ q=>(R.fpAt q).1) (λj a o _ _ ha=>ha) (λy q=>by obtain⟨z,hlt⟩:=gi _ q;cases z;exact⟨v,Sj (by rw[R.len];exact hlt),h⟩) (λzs q=>by cases (gi _ q).1) (λxss q=>by cases (gi _ q).1) (λa j hj q=>absurd q (nofp a));refine⟨R',λa⟨j,q⟩=>?_⟩;by_cases z:j=i;·subst z;exact absurd q (nofp a)
 ·exact⟨j,(fs j a z).mp q⟩
theorem bf.setL(R:bf K F H σ e)(i:Nat){xs:List Rh}{l:xM}{vs:List V}(h1:F l=none)(h2:H l=some (.lst vs))(h3:aT K F xs vs)(h4:¬bi σ e H l):bf K F H (σ.set i (some (.ref l))) (e.set i (some (.l xs)))/\∀a,bi (σ.set i (some (.ref l))) (e.set i (some (.l xs))) H a->bi σ e H a\/a=l:=by
 have gi:∀s,(e.set i (some (Sv.l xs)))[i]?=some (some s)->s=.l xs/\i<e.length:=λs q=>by
  have hlt:i<e.length:=by have:=(Q8 q).1;simpa using this
  rw[Sj hlt]at q;exact⟨(SB (SB q)).symm,hlt⟩
 have onefp:∀a,Fp (σ.set i (some (.ref l))) (e.set i (some (.l xs))) H i a->a=l:=λa q=>by
  rcases q with⟨zs,q,q2⟩|⟨xss,_,_,q,_⟩;·obtain⟨_,hlt⟩:=gi _ q;rw[Sj (by rw[R.len];exact hlt)]at q2;cases q2;rfl
  ·cases (gi _ q).1
 obtain⟨R',fs⟩:=R.upd1 (F':=F) (H':=H) (σ':=σ.set i (some (.ref l))) (e':=e.set i (some (.l xs))) i (by rw[UB,UB];exact R.len) (λj hj=>RI (RJ hj)) (λj hj=>RI (RJ hj)) (ao.refl F) R.sm (λj a _ q=>(R.fpAt q).1) (λj a o _ _ ha=>ha) (λy q=>by cases (gi _ q).1) (λzs q=>by obtain⟨z,hlt⟩:=gi _ q;cases z;exact⟨l,vs,Sj (by rw[R.len];exact hlt),h1,h2,h3⟩) (λxss q=>by cases (gi _ q).1) (λa j hj q q2=>h4 ⟨j,by rw[onefp a q]at q2;exact q2⟩);refine⟨R',λa⟨j,q⟩=>?_⟩;by_cases z:j=i;·subst z;exact .inr (onefp a q)
 ·exact .inl ⟨j,(fs j a z).mp q⟩
end
section
variable{X:Cx}{K:Rj}{o a:Rl}{es:List Rl}{fo:FE}{fs:FA}{name:Str}{apos cpos:Pos}{id:String}
def qE(K:Rj)(r:V->List V->Hp->VK->Prop)(g:List Rh->List Rh->Option (Rh×List Rh)):Prop:=∀(F H:Hp) (l:xM) (xs ys ds:List Rh) (z:Rh) (vs us:List V) (Q:VK),F l=none->ao F H->H l=some (.lst vs)->aT K F xs vs->aT K F ds us->g xs ds=some (z,ys)->(∀w ws,DA K F z w->aT K F ys ws->Q w (bg H l (.lst ws)))->r (.ref l) us H Q
def cx(g:List Rh->List Rh->Option (Rh×List Rh))(fo:FE)(fs:FA):FE:=λe=>(fo e).bind λp=>match p.1 with
 |.s i=>(fs p.2).bind λq=>(gS q.1).bind λds=>match q.2[i]? with|some (some (.l xs))=>(g xs ds).map λz=>(.d z.1,q.2.set i (some (.l z.2)))|_=>none
 |_=>none
theorem yc{r:V->List V->Hp->VK->Prop}{g:List Rh->List Rh->Option (Rh×List Rh)}(hm:qE K r g){σ:L2.St}{H:Hp}{Q:VK}(h:fE K (cx g fo fs) σ H Q):NE K "list" r (fE K fo) (fA K fs) σ H Q:=by obtain⟨F,e,z,e',R,hf,q⟩:=h;unfold cx at hf;obtain⟨⟨x,e1⟩,h1,hf⟩:=Q6 hf;match x,h1,hf with|.s i,h1,hf=>dsimp only at hf;obtain⟨⟨rs,e2⟩,h2,hf⟩:=Q6 hf;obtain⟨ds,h3,hf⟩:=Q6 hf;refine⟨F,e,_,e1,R,h1,λF1 H1 v X1 R1 A1=>?_⟩;obtain⟨g1,zs,g2⟩:=A1;obtain⟨l,vs,c1,c2,c3,c4⟩:=R1.own i zs g2;rw[g1]at c1;cases c1;refine⟨.inl ⟨rfl,vs,.inl (.inl c3)⟩,F1,e1,rs,e2,R1,h2,λF2 H2 us X2 R2 A2=>?_⟩;match h4:e2[i]?,hf with|some (some (.l xs)),hf=>dsimp only at hf;obtain⟨⟨zd,ys⟩,h5,hf⟩:=Q7 hf;cases hf;obtain⟨F3,R3,s3,d3,f3⟩:=eB.frozen R2 A2 h3;obtain⟨l',vs',k1,k2,k3,k4⟩:=R3.own i xs h4;rw[g1]at k1;cases k1;refine hm F3 H2 l xs ys ds zd vs' us Q k2 R3.sm k3 k4 d3 h5 λw ws hw hws=>?_;obtain⟨R4,X4⟩:=R3.putL h4 g1 hws;exact q _ _ _ ((X1.trans (X2.frz s3 f3)).trans X4) R4 hw
theorem Hc{r:V->List V->Hp->VK->Prop}{g:List Rh->List Rh->Option (Rh×List Rh)}(slot:Slot "list" name id)(hty:typeOf (.builtin id)=pure (.type "method_descriptor"))(hm:HA X id r)(hf:qE X.K r g)(ho:PE X o (fE X.K fo))(ha:PA X (a::es) (fA X.K fs))(hbase:SU o name X.env (RC o X.env)=RC o X.env)(hfew:((RP cpos (RB (a::es) X.env)).all (λx=>!x.1)&&(Tz cpos (TB [] X.env)).all (λx=>x.1.isSome)&&decide ((a::es).length+([]:List SL).length+(if ([]:List SL).isEmpty then 0 else 1)<30))=true)(hline:(apos.endLine==cpos.line)=true)(hs:RB (a::es) X.env=(false,RC a X.env)::RB es X.env)(hplain:(RP cpos (RB es X.env)).any (·.1)=false):PE X (.Call (.Attribute o name apos) (a::es) [] cpos) (fE X.K (cx g fo fs)):=(CQ PySem.F.plainAttrs_list slot hty hm ho ha hbase hfew hline hs hplain).mono λ_ _ _ h=>yc hf h
theorem Dh{r:V->List V->Hp->VK->Prop}{g:List Rh->List Rh->Option (Rh×List Rh)}(slot:Slot "list" name id)(hty:typeOf (.builtin id)=pure (.type "method_descriptor"))(hm:HA X id r)(hf:qE X.K r g)(ho:PE X o (fE X.K fo))(hbase:SU o name X.env (RC o X.env)=RC o X.env)(hline:(apos.endLine==cpos.line)=true):PE X (.Call (.Attribute o name apos) [] [] cpos) (fE X.K (cx g fo ah)):=(CS PySem.F.plainAttrs_list slot hty hm ho hbase hline).mono λσ H Q h=>by obtain⟨F,e,r',e',R,hf',q⟩:=yc hf h;refine⟨F,e,r',e',R,hf',λF1 H1 v X1 R1 A1=>?_⟩;obtain⟨ty,G,e2,rs,e3,R2,h2,q2⟩:=q F1 H1 v X1 R1 A1;cases h2;exact⟨ty,q2 G H1 [] (dX.refl _ _ _ _) R2 rfl⟩
def bR:List Rh->List Rh->Option (Rh×List Rh):=λxs ds=>match ds with|[d]=>if xs.length<1000000 then some (.none,xs++[d]) else none|_=>none
theorem Bw:qE K zV bR:=by intro F H l xs ys ds z vs us Q hF sm hl d1 d2 hg q;unfold bR at hg;match ds,hg,d2 with
 |[d],hg,d2=>
  simp only[aT]at d2;obtain⟨w,r,rfl,hw,rfl⟩:=d2;dsimp only at hg;split at hg;case isFalse=>cases hg
  case isTrue hlt=>cases hg;have:=d1.len;have sl:RH=16777216:=SK;exact⟨l,vs,w,rfl,rfl,hl,by lia,q _ _ (fZ.mpr rfl) (d1.append (aT.one hw))⟩
def nL:List Rh->List Rh->Option (Rh×List Rh):=λxs ds=>match ds with|[]=>(xs[xs.length-1]?).map λd=>(d,xs.dropLast)|_=>none
theorem aT.dropLast{F:Hp}{ds:List Rh}{vs:List V}(h:aT K F ds vs):aT K F ds.dropLast vs.dropLast:=by rw[VD,VD,h.len];exact h.take _
theorem Le:qE K Lu nL:=by intro F H l xs ys ds z vs us Q hF sm hl d1 d2 hg q;unfold nL at hg;match ds,hg,d2 with|[],hg,d2=>simp only[aT]at d2;subst d2;obtain⟨d,h1,h2⟩:=Q7 hg;cases h2;obtain⟨v,g1,g2⟩:=d1.get h1;rw[d1.len]at g1;exact⟨l,vs,v,rfl,rfl,hl,g1,q _ _ g2 d1.dropLast⟩
def fF:List Rh->List Rh->Option (Rh×List Rh):=λxs ds=>match ds with|[.int i]=>if 0<=i/\i<1000000000 then(xs[i.toNat]?).map λd=>(d,xs.eraseIdx i.toNat) else none|_=>none
theorem FN:qE K Du fF:=by intro F H l xs ys ds z vs us Q hF sm hl d1 d2 hg q;unfold fF at hg;match ds,hg,d2 with
 |[.int i],hg,d2=>
  simp only[aT,DA]at d2;obtain⟨w,r,rfl,rfl,rfl⟩:=d2;dsimp only at hg;split at hg;case isFalse=>cases hg
  case isTrue hlt=>obtain⟨d,h1,h2⟩:=Q7 hg;cases h2;obtain⟨v,g1,g2⟩:=d1.get h1;have hlt2:i.toNat<vs.length:=(Q8 g1).1;exact⟨l,vs,i,i.toNat,v,rfl,rfl,hl,by lia,by lia,seqIndex_of hlt.1 (by lia),g1,q _ _ g2 (d1.erase _)⟩
end
inductive Fl where|nx (e:En)|bk (e:En)|ct (e:En)|rt (r:Rv) (e:En)
abbrev FS:=En->Option Fl
structure d_ (W:List Nat) (σ:L2.St) (F H:Hp) (e:En) (σ':L2.St) (F' H':Hp) (e':En):Prop where
 sf:ao F F'
 dom:∀a,H' a=none->H a=none
 fr:∀a vs,F a=none->H a=some (.lst vs)->¬bi σ e H a->F' a=none
 lst:∀a vs,H a=some (.lst vs)->∃vs',H' a=some (.lst vs')tmp:∀a o,H a=some o->¬bi σ e H a->H' a=some o
 own:∀a,bi σ' e' H' a->bi σ e H a\/H a=none
 wr:∀j,j∉W->σ'[j]?=σ[j]?
 fd:∀a (m:DI),F a=none->H a=some m.1->¬bi σ e H a->F' a=none
section
variable{K:Rj}{W W1 W2:List Nat}{σ σ1 σ2 σ':L2.St}{H0 F H F1 H1 F2 H2 F' H':Hp}{e e1 e2 e':En}
theorem d_.refl:d_ W σ F H e σ F H e:=⟨ao.refl _,λ_ h=>h,λ_ _ h _ _=>h,λ_ vs h=>⟨vs,h⟩,λ_ _ h _=>h,λ_ h=>.inl h,λ_ _=>rfl,λ_ _ h _ _=>h⟩
theorem dX.s(x:dX σ F H e F' H' e'):d_ W σ F H e σ F' H' e':=⟨x.sf,x.dom,x.fr,x.lst,x.tmp,x.ow,λ_ _=>rfl,x.fd⟩
theorem d_.trans(x:d_ W σ F H e σ1 F1 H1 e1)(y:d_ W σ1 F1 H1 e1 σ2 F2 H2 e2):d_ W σ F H e σ2 F2 H2 e2:=⟨x.sf.trans y.sf,λa h=>x.dom a (y.dom a h),λa vs h n no=>let⟨vs',q⟩:=x.lst a vs n;y.fr a vs' (x.fr a vs h n no) q (λz=>(x.own a z).elim no λz=>by rw[n]at z;cases z),λa vs h=>let⟨vs',q⟩:=x.lst a vs h;y.lst a vs' q,λa o h n=>y.tmp a o (x.tmp a o h n) (λz=>(x.own a z).elim n λz=>by rw[h]at z;cases z),λa h=>(y.own a h).elim (x.own a) (λz=>.inr (x.dom a z)),λj h=>(y.wr j h).trans (x.wr j h),λa m h n no=>y.fd a m (x.fd a m h n no) (x.tmp a _ n no) (λz=>(x.own a z).elim no λz=>by rw[n]at z;cases z)⟩
theorem d_.mono(x:d_ W1 σ F H e σ' F' H' e')(h:∀j,j∈W1->j∈W):d_ W σ F H e σ' F' H' e':=⟨x.sf,x.dom,x.fr,x.lst,x.tmp,x.own,λj n=>x.wr j λz=>n (h j z),x.fd⟩
end
def qP(K:Rj)(W:List Nat)(σ:L2.St)(F H:Hp)(e:En)(D:qD):Fl->Prop|.nx e'=>∀F' H' σ',d_ W σ F H e σ' F' H' e'->bf K F' H' σ' e'->D.nx σ' H'|.bk e'=>∀F' H' σ',d_ W σ F H e σ' F' H' e'->bf K F' H' σ' e'->D.bk σ' H'|.ct e'=>∀F' H' σ',d_ W σ F H e σ' F' H' e'->bf K F' H' σ' e'->D.ct σ' H'|.rt r e'=>∀F' H' σ' v,d_ W σ F H e σ' F' H' e'->bf K F' H' σ' e'->cF K σ' H F' H' e' r v->D.rt v H'
def fS(K:Rj)(f:FS)(W:List Nat):TS:=λD σ H=>∃F e fl,bf K F H σ e/\f e=some fl/\qP K W σ F H e D fl
theorem PS.mono{X:Cx}{st:Rx}{t t':TS}(h:PS X st t)(m:∀D σ H,t' D σ H->t D σ H):PS X st t':=λpins s σ H D I q=>h pins s σ H D I (m D σ H q)
theorem ke.mono{X:Cx}{st:List Rx}{t t':TS}(h:ke X st t)(m:∀D σ H,t' D σ H->t D σ H):ke X st t':=λpins s σ H D I q=>h pins s σ H D I (m D σ H q)
theorem qP.later{K:Rj}{W W1 W2:List Nat}{σ σ1:L2.St}{F H F1 H1:Hp}{e e1:En}{D:qD}{fl:Fl}(h:qP K W σ F H e D fl)(x:d_ W1 σ F H e σ1 F1 H1 e1)(h1:∀j,j∈W1->j∈W)(h2:∀j,j∈W2->j∈W):qP K W2 σ1 F1 H1 e1 D fl:=by cases fl with|nx e'=>exactλF' H' σ' y R=>h F' H' σ' ((x.mono h1).trans (y.mono h2)) R|bk e'=>exactλF' H' σ' y R=>h F' H' σ' ((x.mono h1).trans (y.mono h2)) R|ct e'=>exactλF' H' σ' y R=>h F' H' σ' ((x.mono h1).trans (y.mono h2)) R|rt r e'=>exactλF' H' σ' v y R A=>h F' H' σ' v ((x.mono h1).trans (y.mono h2)) R (A.weak x.dom)
section
variable{X:Cx}{K:Rj}{W W1 W2:List Nat}{st:Rx}{aB:List Rx}{f g:FS}{a b:Rl}{fa:FE}{ft:FT}{pos:Pos}
def cY:FS:=λe=>some (.nx e)
def aU(f g:FS):FS:=λe=>(f e).bind λfl=>match fl with|.nx e1=>g e1|fl=>some fl
theorem bh:ke X [] (fS K cY []):=zO.mono λD σ H h=>by obtain⟨F,e,fl,R,hf,q⟩:=h;cases hf;exact q F H σ d_.refl R
theorem af(h1:PS X st (fS K f W1))(h2:ke X aB (fS K g W2)):ke X (st::aB) (fS K (aU f g) (W1++W2)):=(nY h1 h2).mono λD σ H h=>by obtain⟨F,e,fl,R,hf,q⟩:=h;unfold aU at hf;obtain⟨fl1,h1,hf⟩:=Q6 hf;have s1:∀j,j∈W1->j∈W1++W2:=λj h=>SH.mpr (.inl h);have s2:∀j,j∈W2->j∈W1++W2:=λj h=>SH.mpr (.inr h);refine⟨F,e,fl1,R,h1,?_⟩;cases fl1 with|nx e1=>exactλF' H' σ' x R'=>⟨F',e1,fl,R',hf,q.later x s1 s2⟩|bk e1=>cases hf;exactλF' H' σ' x R'=>q F' H' σ' (x.mono s1) R'|ct e1=>cases hf;exactλF' H' σ' x R'=>q F' H' σ' (x.mono s1) R'|rt r e1=>cases hf;exactλF' H' σ' v x R' A=>q F' H' σ' v (x.mono s1) R' A
theorem ar(h1:PS X st (fS K f W)):ke X [st] (fS K f W):=vS h1
def eV(fa:FE):FS:=λe=>(fa e).map λp=>.nx p.2
theorem ij(he:PE X a (fE K fa))(hs:Tx a none pos.line X.env=pure false):PS X (.Expr a pos) (fS K (eV fa) []):=(FQ he hs).mono λD σ H h=>by obtain⟨F,e,fl,R,hf,q⟩:=h;obtain⟨⟨x,e1⟩,h1,hf⟩:=Q7 hf;cases hf;exact⟨F,e,x,e1,R,h1,λF1 H1 v X1 R1 A1=>q F1 H1 σ X1.s R1⟩
def bw(fa:FE):FS:=λe=>(fa e).map λp=>.rt p.1 p.2
theorem aE(he:PE X a (fE K fa)):PS X (.Return (some a) pos) (fS K (bw fa) []):=(yU he).mono λD σ H h=>by obtain⟨F,e,fl,R,hf,q⟩:=h;obtain⟨⟨x,e1⟩,h1,hf⟩:=Q7 hf;cases hf;exact⟨F,e,x,e1,R,h1,λF1 H1 v X1 R1 A1=>q F1 H1 σ v X1.s R1 A1⟩
def jx(ft:FT)(f g:FS):FS:=λe=>(ft e).bind λp=>if p.1=true then f p.2 else g p.2
theorem cL{c:Rl}{bs cs:List Rx}(hc:PT X c (fT K ft))(ha:ke X bs (fS K f W1))(hb:ke X cs (fS K g W2)):PS X (.If c bs cs pos) (fS K (jx ft f g) (W1++W2)):=(G9 hc ha hb).mono λD σ H h=>by obtain⟨F,e,fl,R,hf,q⟩:=h;unfold jx at hf;obtain⟨⟨x,e1⟩,h1,hf⟩:=Q6 hf;refine⟨F,e,x,e1,R,h1,λF1 H1 X1 R1=>?_⟩;cases x with|true=>exact⟨F1,e1,fl,R1,hf,q.later (W1:=[]) X1.s (λj h=>by cases h) λj h=>SH.mpr (.inl h)⟩|false=>exact⟨F1,e1,fl,R1,hf,q.later (W1:=[]) X1.s (λj h=>by cases h) λj h=>SH.mpr (.inr h)⟩
def rJ(i:Nat)(r:Rv)(e:En):Option En:=match r with|.d x=>some (e.set i (some (.d x)))|.l xs=>some (e.set i (some (.l xs)))|.s _=>none
theorem Jw{σ:L2.St}{H F H1 F1:Hp}{e e1 e2:En}{i:Nat}{r:Rv}{v:V}(R:bf K F H σ e)(X1:dX σ F H e F1 H1 e1)(R1:bf K F1 H1 σ e1)(A1:cF K σ H F1 H1 e1 r v)(h:rJ i r e1=some e2):d_ [i] σ F H e (σ.set i (some v)) F1 H1 e2/\bf K F1 H1 (σ.set i (some v)) e2:=by
 have wr:∀j,j∉[i]->(σ.set i (some v))[j]?=σ[j]?:=λj n=>RI (λz=>n (by simp[z]))
 cases r with|d x=>cases h;obtain⟨R2,o2⟩:=R1.setD i A1;exact⟨⟨X1.sf,X1.dom,X1.fr,X1.lst,X1.tmp,λa h=>X1.ow a (o2 a h),wr,X1.fd⟩,R2⟩|l xs=>
  cases h;obtain⟨l,vs,rfl,h1,h2,h3,h4,h5⟩:=A1;obtain⟨R2,o2⟩:=R1.setL i h2 h3 h4 h5;refine⟨⟨X1.sf,X1.dom,X1.fr,X1.lst,X1.tmp,λa h=>?_,wr,X1.fd⟩,R2⟩;rcases o2 a h with z|z;·exact X1.ow a z
  ·exact .inr (by rw[z];exact h1)|s j=>cases h
def bx(i:Nat)(fa:FE):FS:=λe=>(fa e).bind λp=>(rJ i p.1 p.2).map .nx
theorem aS{i:Nat}{x:Str}{pos':Pos}(hN:X.N.Nodup)(hi:X.N[i]?=some x)(hx:zo X.env.scope x)(he:PE X a (fE K fa))(hs:Tx a (some (.Name x pos')) pos.line X.env=pure false)(hf:X.fn x=true\/X.env.scope.names.lookup x=some .local):PS X (.Assign [.Name x pos'] a pos) (fS K (bx i fa) [i]):=(vQ hN hi hx he hs hf).mono λD σ H h=>by obtain⟨F,e,fl,R,hf,q⟩:=h;unfold bx at hf;obtain⟨⟨r,e1⟩,h1,hf⟩:=Q6 hf;obtain⟨e2,h2,hf⟩:=Q7 hf;cases hf;refine⟨F,e,r,e1,R,h1,λF1 H1 v X1 R1 A1=>?_⟩;obtain⟨x,R2⟩:=Jw R X1 R1 A1 h2;exact q F1 H1 _ x R2
abbrev FG:=Rh->En->Option En
def fG(K:Rj)(g:FG)(W:List Nat):TG:=λv σ H Q=>∃F e x e',bf K F H σ e/\DA K F x v/\g x e=some e'/\∀σ',d_ W σ F H e σ' F H e'->bf K F H σ' e'->Q σ' H
abbrev GJ:=List Rh->En->Option En
def Ma(K:Rj)(g:GJ)(W:List Nat):Ef:=λvs σ H Q=>∃F e xs e',bf K F H σ e/\aT K F xs vs/\g xs e=some e'/\∀σ',d_ W σ F H e σ' F H e'->bf K F H σ' e'->Q σ' H
theorem PG.mono{tg:Rl}{t t':TG}(h:PG X tg t)(m:∀v σ H Q,t' v σ H Q->t v σ H Q):PG X tg t':=λpins s σ H v u Q I r q=>h pins s σ H v u Q I r (m v σ H Q q)
theorem Bm.mono{tg:List Rl}{t t':Ef}(h:Bm X tg t)(m:∀v σ H Q,t' v σ H Q->t v σ H Q):Bm X tg t':=λpins s σ H v u Q I r q=>h pins s σ H v u Q I r (m v σ H Q q)
def am(i:Nat):FG:=λx e=>some (e.set i (some (.d x)))
def bY:GJ:=λxs e=>match xs with|[]=>some e|_=>none
def aF(g:FG)(gs:GJ):GJ:=λxs e=>match xs with|x::r=>(g x e).bind λe1=>gs r e1|_=>none
def cf(gs:GJ):FG:=λx e=>match x with|.tuple xs=>gs xs e|_=>none
theorem aR{i:Nat}{x:Str}(hN:X.N.Nodup)(hi:X.N[i]?=some x)(hx:zo X.env.scope x)(hf:X.fn x=true\/X.env.scope.names.lookup x=some .local):PG X (.Name x pos) (fG K (am i) [i]):=(lN hN hi hx hf).mono λv σ H Q h=>by obtain⟨F,e,x,e',R,hx,hg,q⟩:=h;cases hg;obtain⟨R2,o2⟩:=R.setD i hx;exact q _ ⟨ao.refl _,λ_ h=>h,λ_ _ h _ _=>h,λ_ vs h=>⟨vs,h⟩,λ_ _ h _=>h,λa h=>.inl (o2 a h),λj n=>RI (λz=>n (by simp[z])),λ_ _ h _ _=>h⟩ R2
theorem gb:Bm X [] (Ma K bY []):=vP.mono λv σ H Q h=>by
 obtain⟨F,e,x,e',R,hx,hg,q⟩:=h;unfold bY at hg;split at hg;·cases hg;simp only[aT]at hx;exact⟨hx,q σ d_.refl R⟩
 ·cases hg
theorem bu{es:List Rl}{g1:FG}{gs:GJ}(h1:PG X a (fG K g1 W1))(h2:Bm X es (Ma K gs W2))(hs:(Sa (a::es) X.env).map (·.2)=Td a X.env::(Sa es X.env).map (·.2)):Bm X (a::es) (Ma K (aF g1 gs) (W1++W2)):=(jv h1 h2 hs).mono λv σ H Q h=>by obtain⟨F,e,xs,e',R,hx,hg,q⟩:=h;unfold aF at hg;match xs,hg,hx with|x::r,hg,hx=>simp only[aT]at hx;obtain⟨w,ws,e1,hw,hr⟩:=hx;dsimp only at hg;obtain⟨e1',h3,h4⟩:=Q6 hg;refine⟨w,ws,e1,F,e,x,e1',R,hw,h3,λσ1 x1 R1=>⟨F,e1',r,e',R1,hr,h4,λσ2 x2 R2=>?_⟩⟩;exact q σ2 ((x1.mono λj h=>SH.mpr (.inl h)).trans (x2.mono λj h=>SH.mpr (.inr h))) R2
theorem jc{es:List Rl}{k n:Nat}{gs:GJ}(hK:X.K=K)(hc:X.calm=true)(h:Bm X es (Ma K gs W))(hl:∀xs e e',gs xs e=some e'->xs.length=n)(hn:(Sa es X.env).length=n)(hst:(Sa es X.env).findIdx? (·.1)=none):PG X (.Tuple es k pos) (fG K (cf gs) W):=(vO hK hc h hn hst).mono λv σ H Q h=>by obtain⟨F,e,x,e',R,hx,hg,q⟩:=h;unfold cf at hg;match x,hg,hx with|.tuple xs,hg,hx=>obtain⟨p,vs,e1,e2,e3⟩:=cO.mp hx;exact⟨p,vs,e1,R.sm.tup e2,by rw[<-e3.len];exact hl xs e e' hg,F,e,xs,e',R,e3,hg,q⟩
theorem ja(xs:List Rh)(e e':En)(h:bY xs e=some e'):xs.length=0:=by
 unfold bY at h;split at h;·rfl
 ·cases h
theorem bM{g:FG}{gs:GJ}{n:Nat}(hl:∀xs e e',gs xs e=some e'->xs.length=n)(xs:List Rh)(e e':En)(h:aF g gs xs e=some e'):xs.length=n+1:=by unfold aF at h;match xs,h with|x::r,h=>obtain⟨e1,h3,h4⟩:=Q6 h;simp[hl r e1 e' h4]
def lW(fa:FE)(g:FG):FS:=λe=>(fa e).bind λp=>match p.1 with|.d x=>(g x p.2).map .nx|_=>none
theorem rO{tg:Rl}{g:FG}(he:PE X a (fE K fa))(hg:PG X tg (fG K g W))(hs:UQ [tg] a pos.line X.env=pure false)(hw:UR [tg] a X.env=pure none)(h1:(Sa [tg] X.env).map (·.2)=[Td tg X.env]):PS X (.Assign [tg] a pos) (fS K (lW fa g) W):=(C5 he hg hs hw h1).mono λD σ H h=>by obtain⟨F,e,fl,R,hf,q⟩:=h;unfold lW at hf;obtain⟨⟨r,e1⟩,h1,hf⟩:=Q6 hf;match r,h1,hf with|.d x,h1,hf=>obtain⟨e2,h2,hf⟩:=Q7 hf;cases hf;exact⟨F,e,_,e1,R,h1,λF1 H1 v X1 R1 A1=>⟨F1,e1,x,e2,R1,A1,h2,λσ' x2 R2=>q F1 H1 σ' (X1.s.trans x2) R2⟩⟩
def qk(i j:Nat)(fs:FA):FS:=λe=>(fs e).bind λp=>match p.1 with|[.d x,.d y]=>some (.nx ((p.2.set i (some (.d x))).set j (some (.d y))))|_=>none
theorem JD{i j:Nat}{x y:Str}{fs:FA}{px py pt:Pos}{kt k2 pt2}(hc:X.calm=true)(hN:X.N.Nodup)(hi:X.N[i]?=some x)(hj:X.N[j]?=some y)(hij:i≠j)(hx:X.env.scope.names.lookup x=some .local)(hy:X.env.scope.names.lookup y=some .local)(ha:PA X [a,b] (fA K fs))(hw:UR [.Tuple [.Name x px,.Name y py] kt pt] (.Tuple [a,b] k2 pt2) X.env=pure (some [x,y]))(hs:UQ [.Tuple [.Name x px,.Name y py] kt pt] (.Tuple [a,b] k2 pt2) pos.line X.env=pure false):PS X (.Assign [.Tuple [.Name x px,.Name y py] kt pt] (.Tuple [a,b] k2 pt2) pos) (fS K (qk i j fs) [i,j]):=(Ju hc hN hi hj hij hx hy ha hw hs).mono λD σ H h=>by obtain⟨F,e,fl,R,hf,q⟩:=h;unfold qk at hf;obtain⟨⟨rs,e1⟩,h1,hf⟩:=Q6 hf;refine⟨F,e,rs,e1,R,h1,λF1 H1 vs X1 R1 A1=>?_⟩;match rs,hf,A1 with|[.d x,.d y],hf,A1=>cases hf;obtain⟨v,u,rfl,a1,a2⟩:=z_ A1;obtain⟨R2,o2⟩:=R1.setD i a1;obtain⟨R3,o3⟩:=R2.setD j a2;refine⟨v,u,rfl,q F1 H1 _ ⟨X1.sf,X1.dom,X1.fr,X1.lst,X1.tmp,λa h=>X1.ow a (o2 a (o3 a h)),λm n=>?_,X1.fd⟩ R3⟩;rw[RI (λz=>n (by simp[z])),RI (λz=>n (by simp[z]))]
def iE:Rv->Option Rh|.d x=>some x|.l xs=>some (.list xs)|.s _=>none
theorem AC{r:Rv}{d:Rh}(h:iE r=some d):gS [r]=some [d]:=by cases r with|d x=>cases h;rfl|l xs=>cases h;rfl|s i=>cases h
def kd(ft:FT)(f:FS):Nat->FS|0,_=>none|n+1,e=>(ft e).bind λp=>if p.1=true then(f p.2).bind λfl=>match fl with|.nx e1=>kd ft f n e1|.ct e1=>kd ft f n e1|.bk e1=>some (.nx e1)|.rt r e1=>some (.rt r e1)else some (.nx p.2)
def rY(n:Nat)(ft:FT)(f:FS):FS:=kd ft f n
theorem xG{n:Nat}{c:Rl}{body:List Rx}(hp:Uu (Ry X.prog X.w) X.A X.env X.xe)(hc:PT X c (fT K ft))(hb:ke X body (fS K f W)):PS X (.While c body [] pos) (fS K (rY n ft f) W):=(xE hp hc hb).mono λD σ H h=>by refine⟨λm σ H=>∃F e fl,bf K F H σ e/\kd ft f m e=some fl/\qP K W σ F H e D fl,⟨n,h⟩,?_⟩;rintro m σ H⟨F,e,fl,R,hf,q⟩;cases m with|zero=>cases hf|succ m=>
 unfold kd at hf;obtain⟨⟨x,e1⟩,h1,hf⟩:=Q6 hf;refine⟨F,e,x,e1,R,h1,λF1 H1 X1 R1=>?_⟩;have sub:∀j,j∈([]:List Nat)->j∈W:=λj h=>by cases h
 cases x with|false=>rw[if_neg (by simp)]at hf;cases hf;exact Ic (q F1 H1 σ X1.s R1)|true=>rw[if_pos rfl]at hf;refine Ie ?_;obtain⟨fl1,h2,hf⟩:=Q6 hf;have q1:qP K W σ F1 H1 e1 D fl:=q.later (W1:=[]) X1.s sub λj h=>h;refine⟨λσ' H'=>∃F' e',bf K F' H' σ' e'/\kd ft f m e'=some fl/\qP K W σ' F' H' e' D fl,λσ' H'⟨F',e',r1,r2,r3⟩=>⟨m,Vn m,F',e',fl,r1,r2,r3⟩,F1,e1,fl1,R1,h2,?_⟩;cases fl1 with|nx e2=>exactλF2 H2 σ2 x R2=>⟨F2,e2,R2,hf,q1.later x (λj h=>h) λj h=>h⟩|ct e2=>exactλF2 H2 σ2 x R2=>⟨F2,e2,R2,hf,q1.later x (λj h=>h) λj h=>h⟩|bk e2=>cases hf;exactλF2 H2 σ2 x R2=>q1 F2 H2 σ2 x R2|rt r e2=>cases hf;exactλF2 H2 σ2 v x R2 A=>q1 F2 H2 σ2 v x R2 A
end
theorem PI.mono{X:Cx}{tg iter:Rl}{t t':TI}(h:PI X tg iter t)(m:∀σ H R,t' σ H R->t σ H R):PI X tg iter t':=λpins s σ H R I q=>h pins s σ H R I (m σ H R q)
theorem PI.or{X:Cx}{tg iter:Rl}{t t':TI}(h:PI X tg iter t)(h':PI X tg iter t'):PI X tg iter (λσ H R=>t σ H R\/t' σ H R):=λpins s σ H R I q=>by
 rcases q with q|q;·exact h pins s σ H R I q
 ·exact h' pins s σ H R I q
abbrev jJ:=List (Nat×List Rh)
def Bp(K:Rj)(σ:L2.St)(F H:Hp)(own:jJ):Prop:=∀p∈own,∃l vs,σ[p.1]?=some (some (.ref l))/\H l=some (.lst vs)/\aT K F p.2 vs
def Ep(K:Rj)(σ:L2.St)(J:It)(items:List Rh)(own:jJ)(F0:Hp):Prop:=∀F H,ao F0 F->ao F H->Bp K σ F H own->(∀i,i<items.length->J.go i H)/\(∀i,items.length<=i->J.stop i H)/\∀i d x H',items[i]?=some d->J.yld i H x H'->∃F',ao H H'/\ao F F'/\ao F' H'/\(∀a,F a=none->H a≠none->F' a=none)/\DA K F' d x
abbrev FI:=En->Option (List Rh×jJ×En)
def keeps(own:jJ)(e:En):Prop:=∀p∈own,e[p.1]?=some (some (.l p.2))
def fI(K:Rj)(f:FI):TI:=λσ H R=>∃F e items own e',bf K F H σ e/\f e=some (items,own,e')/\∀J F' H',dX σ F H e F' H' e'->bf K F' H' σ e'->keeps own e'->Ep K σ J items own F'->R J H'
section
variable{K:Rj}{σ:L2.St}{H0 F H F' H':Hp}{e e':En}
theorem bf.held(R:bf K F H σ e){own:jJ}(h:keeps own e):Bp K σ F H own:=λp hp=>by obtain⟨l,vs,h1,h2,h3,h4⟩:=R.own p.1 p.2 (h p hp);exact⟨l,vs,h1,h3,h4⟩
theorem bf.step(R:bf K F H σ e)(s:ao H H')(sF:ao F F')(sm:ao F' H')(fz:∀a,F a=none->H a≠none->F' a=none):bf K F' H' σ e/\dX σ F H e F' H' e:=by obtain⟨R',o'⟩:=R.keep sF sm (λa⟨i,h⟩=>by obtain⟨h1,vs,h2⟩:=R.fpAt h;exact fz a h1 (by rw[h2];simp)) λa o _ h=>s a o h;exact⟨R',⟨sF,λa h=>s.free h,λa vs h1 h2 _=>fz a h1 (by rw[h2];simp),λa vs h=>⟨vs,s _ _ h⟩,λa o h _=>s a o h,λ_=>Iff.rfl,λa h=>.inl ((o' a).mp h),λa m h1 h2 _=>fz a h1 (by rw[h2];simp)⟩⟩
inductive GM (K:Rj) (σ:L2.St) (F:Hp) (p:xM):Bool->List Rh->jJ->Prop|tup{xs vs}:ff K F p vs->aT K F xs vs->GM K σ F p false xs []|lst{xs vs}:fX K F p vs->aT K F xs vs->GM K σ F p true xs []|own{i xs}:σ[i]?=some (some (.ref p))->GM K σ F p true xs [(i,xs)]
theorem GM.at{p:xM}{b:Bool}{xs:List Rh}{own:jJ}{F0:Hp}(h:GM K σ F0 p b xs own)(s0:ao F0 F)(s1:ao F H){own':jJ}(hh:Bp K σ F H own')(hs:∀q∈own,q∈own'):∃vs,aT K F xs vs/\(if b=true then fX K H p vs else ff K H p vs):=by cases h with|tup h1 h2=>exact⟨_,h2.mono s0,(s0.trans s1).tup h1⟩|lst h1 h2=>exact⟨_,h2.mono s0,(s0.trans s1).seq h1⟩|@own i xs h1=>obtain⟨l,vs,g1,g2,g3⟩:=hh (i,xs) (hs (i,xs) (by simp));dsimp only at g1 g3;rw[h1]at g1;cases g1;exact⟨vs,g3,.inl (.inl g2)⟩
def JS(e:En):Rv->Option (Bool×List Rh×jJ)
 |.d (.tuple xs)=>some (false,xs,[])|.d (.list xs)=>some (true,xs,[])|.l xs=>some (true,xs,[])|.s i=>match e[i]? with|some (some (.l xs))=>some (true,xs,[(i,xs)])|_=>none
 |_=>none
theorem Ag{r:Rv}{v:V}{b:Bool}{xs:List Rh}{own:jJ}(R:bf K F H σ e)(A:cF K σ H0 F H e r v)(h:JS e r=some (b,xs,own)):∃F' p,bf K F' H σ e/\ao F F'/\(∀a,F a=none->H0 a≠none->F' a=none)/\v=.ref p/\GM K σ F' p b xs own/\keeps own e:=by cases r with
 |d x=>cases x with|tuple ds=>cases h;obtain⟨a,ys,e1,e2,e3⟩:=cO.mp A;exact⟨F,a,R,ao.refl _,λ_ h _=>h,e1,.tup e2 e3,λp hp=>by cases hp⟩|list ds=>cases h;obtain⟨a,ys,e1,e2,e3⟩:=eC.mp A;exact⟨F,a,R,ao.refl _,λ_ h _=>h,e1,.lst e2 e3,λp hp=>by cases hp⟩|_=>cases h
 |l ys=>cases h;obtain⟨F',R',s',d',f'⟩:=A.frozen R;obtain⟨a,ys,e1,e2,e3⟩:=eC.mp d';exact⟨F',a,R',s',f',e1,.lst e2 e3,λp hp=>by cases hp⟩|s i=>obtain⟨h1,ys,h2⟩:=A;simp only[JS,h2]at h;cases h;obtain⟨l,vs,e1,e2,e3,e4⟩:=R.own i _ h2;rw[h1]at e1;cases e1;exact⟨F,l,R,ao.refl _,λ_ h _=>h,rfl,.own h1,λp hp=>by simp only[RW]at hp;subst hp;exact h2⟩
theorem AL{p:xM}{xs:List Rh}{own:jJ}{F0:Hp}(h:GM K σ F0 p true xs own):Ep K σ (Mp K p) xs own F0:=by intro F H s0 s1 hh;obtain⟨vs,d,q⟩:=h.at s0 s1 hh λ_ h=>h;have q:fX K H p vs:=q;refine⟨λi hi=>⟨vs,vs[i]'(by rw[<-d.len];exact hi),q,SN _⟩,λi hi=>⟨vs,q,by rw[<-d.len];exact hi⟩,λi x v H' hx hy=>?_⟩;obtain⟨rfl,hy⟩:=hy;obtain⟨w,g1,g2⟩:=d.get hx;have e:=hy vs q;rw[g1]at e;cases e;exact⟨F,ao.refl _,ao.refl _,s1,λ_ h _=>h,g2⟩
theorem B'{p:xM}{xs:List Rh}{own:jJ}{F0:Hp}(h:GM K σ F0 p false xs own):Ep K σ (Mq K p) xs own F0:=by intro F H s0 s1 hh;obtain⟨vs,d,q⟩:=h.at s0 s1 hh λ_ h=>h;have q:ff K H p vs:=q;refine⟨λi hi=>⟨vs,vs[i]'(by rw[<-d.len];exact hi),q,SN _⟩,λi hi=>⟨vs,q,by rw[<-d.len];exact hi⟩,λi x v H' hx hy=>?_⟩;obtain⟨rfl,hy⟩:=hy;obtain⟨w,g1,g2⟩:=d.get hx;have e:=hy vs q;rw[g1]at e;cases e;exact⟨F,ao.refl _,ao.refl _,s1,λ_ h _=>h,g2⟩
def bC(lo:Int)(n:Nat):List Rh:=(TM n).map fun(i:Nat)=>.int (lo+(i:Int))
theorem yA{lo:Int}{n:Nat}{F0:Hp}:Ep K σ (L6 lo n) (bC lo n) [] F0:=by intro F H s0 s1 hh;unfold bC;rw[RQ,List.length_range];refine⟨λi hi=>hi,λi hi=>hi,λi x v H' hx hy=>?_⟩;obtain⟨rfl,rfl⟩:=hy;rw[RY]at hx;obtain⟨k,h1,rfl⟩:=Q7 hx;have h2:=(Q8 h1).2;simp at h2;subst h2;exact⟨F,ao.refl _,ao.refl _,s1,λ_ h _=>h,cq.mpr rfl⟩
end
inductive Mm (K:Rj) (own:jJ) (σ0:L2.St) (F1:Hp) (P:En->Prop) (G:L2.St->Hp->Hp->En->Prop) (σ:L2.St) (H:Hp):Prop|mk{F:Hp}{e:En}(R:bf K F H σ e) (kp:keeps own e) (hσ:∀p∈own,σ[p.1]?=σ0[p.1]?) (sF:ao F1 F) (hf:P e) (q:G σ F H e):Mm K own σ0 F1 P G σ H
section
variable{X:Cx}{K:Rj}{tg a b:Rl}{es:List Rl}{fa:FE}{fs:FA}{pos p tp:Pos}{k0:Nat}
def kW(fa:FE):FI:=λe=>(fa e).bind λp=>(JS p.2 p.1).map λs=>(s.2.1,s.2.2,p.2)
theorem fP(hK:X.K=K)(h:PE X a (fE K fa)):PI X tg a (fI K (kW fa)):=((C0 (tg:=tg) hK h).or (FJ (tg:=tg) hK h)).mono λσ H R hh=>by obtain⟨F,e,items,own,e',R0,hf,q⟩:=hh;unfold kW at hf;obtain⟨⟨r,e1⟩,h1,hf⟩:=Q6 hf;obtain⟨⟨b,xs,ow⟩,h2,hf⟩:=Q7 hf;cases hf;cases b with|true=>refine .inl ⟨F,e,r,e1,R0,h1,λF1 H1 v X1 R1 A1=>?_⟩;obtain⟨F2,p,R2,s2,f2,rfl,sc,kp⟩:=Ag R1 A1 h2;obtain⟨vs,_,c⟩:=sc.at (ao.refl _) R2.sm (R2.held kp) λ_ h=>h;exact⟨p,rfl,⟨vs,c⟩,q _ F2 H1 (X1.frz s2 f2) R2 kp (AL sc)⟩|false=>refine .inr ⟨F,e,r,e1,R0,h1,λF1 H1 v X1 R1 A1=>?_⟩;obtain⟨F2,p,R2,s2,f2,rfl,sc,kp⟩:=Ag R1 A1 h2;obtain⟨vs,_,c⟩:=sc.at (ao.refl _) R2.sm (R2.held kp) λ_ h=>h;exact⟨p,rfl,⟨vs,c⟩,q _ F2 H1 (X1.frz s2 f2) R2 kp (B' sc)⟩
def DB(j:Int):Bool:=decide (-1000000<=j)&&decide (j<=1000000)
theorem DC{j:Int}(h:DB j=true):-1000000<=j/\j<=1000000:=by unfold DB at h;rw[Sr,decide_eq_true_iff,decide_eq_true_iff]at h;exact h
def eP(fs:FA):FI:=λe=>(fs e).bind λp=>match p.1 with|[r]=>(cG r).bind λj=>if DB j=true then some (bC 0 j.toNat,[],p.2) else none|_=>none
theorem fN(hg:Gl X "range")(hm:X.mg "range"=none)(ha:PA X [a] (fA K fs))(hs:RB [a] X.env=[(false,RC a X.env)]):PI X tg (.Call (.Name "range" p) [a] [] pos) (fI K (eP fs)):=(AZ hg hm ha hs).mono λσ H R hh=>by obtain⟨F,e,items,own,e',R0,hf,q⟩:=hh;unfold eP at hf;obtain⟨⟨rs,e1⟩,h1,hf⟩:=Q6 hf;match rs,h1,hf with
 |[r],h1,hf=>
 obtain⟨j,h2,hf⟩:=Q6 hf;split at hf;case isFalse=>cases hf
 case isTrue hj=>cases hf;refine⟨F,e,_,e1,R0,h1,λF1 H1 vs X1 R1 A1=>?_⟩;obtain⟨v,rfl,A2⟩:=vZ A1;have:=DC hj;exact⟨j,by rw[df A2 h2],by lia,by lia,q _ F1 H1 X1 R1 (λ_ h=>by cases h) yA⟩
open Classical in noncomputable def lU(own:jJ)(g:FG)(f:FS):List Rh->FS|[],e=>some (.nx e)|x::r,e=>(g x e).bind λe1=>(f e1).bind λfl=>match fl with|.nx e2=>if keeps own e2 then lU own g f r e2 else none|.ct e2=>if keeps own e2 then lU own g f r e2 else none|.bk e2=>some (.nx e2)|.rt v e2=>some (.rt v e2)
noncomputable def jd(W:List Nat)(fi:FI)(g:FG)(f:FS):FS:=λe=>(fi e).bind λp=>if (p.2.1.all λq=>!W.contains q.1)=true then lU p.2.1 g f p.1 p.2.2 else none
theorem mD{W1 W2:List Nat}{iter:Rl}{body:List Rx}{fi:FI}{g:FG}{f:FS}(hp:Uu (Ry X.prog X.w) X.A X.env X.xe)(hc:X.calm=true)(hi:PI X tg iter (fI K fi))(hg:PG X tg (fG K g W1))(hb:ke X body (fS K f W2))(hs:∀x,Uh iter X.env x=pure x):PS X (.For tg iter body [] pos) (fS K (jd (W1++W2) fi g f) (W1++W2)):=(yT hp hc hi hg hb hs).mono λD σ0 H0 hh=>by
 obtain⟨F0,e0,fl,R0,hf,q0⟩:=hh;unfold jd at hf;obtain⟨⟨items,own,e1⟩,h1,hf⟩:=Q6 hf;dsimp only at hf;split at hf;case isFalse=>cases hf
 case isTrue hW=>
 have hW':∀p∈own,p.1∉W1++W2:=λp hp=>by have:=Sk.mp hW p hp;simpa using this
 refine⟨F0,e0,items,own,e1,R0,h1,λJ F1 H1 X1 R1 kp ok=>?_⟩;have s1:∀j,j∈W1->j∈W1++W2:=λj h=>SH.mpr (.inl h);have s2:∀j,j∈W2->j∈W1++W2:=λj h=>SH.mpr (.inr h);have q1:qP K (W1++W2) σ0 F1 H1 e1 D fl:=q0.later (W1:=[]) X1.s (λj h=>by cases h) λj h=>h;refine⟨λi m σ H=>m=items.length-i/\i<=items.length/\Mm K own σ0 F1 (λe=>lU own g f (items.drop i) e=some fl) (λσ F H e=>qP K (W1++W2) σ F H e D fl) σ H,⟨items.length,by simp,Tq _,.mk R1 kp (λ_ _=>rfl) (ao.refl _) hf q1⟩,?_⟩;rintro i m σ H⟨rfl,hi,⟨R,kp,hσ,sF,hf,q⟩⟩;rename_i F e;have held:Bp K σ0 F H own:=λp hp=>by obtain⟨l,vs,g1,g2⟩:=R.held kp p hp;exact⟨l,vs,by rw[<-hσ p hp];exact g1,g2⟩
 obtain⟨go,stop,yld⟩:=ok F H sF R.sm held;by_cases hlt:i<items.length
 ·have hd:items.drop i=items[i]::items.drop (i+1):=Vb hlt;rw[hd]at hf;unfold lU at hf;obtain⟨e2,h2,hf⟩:=Q6 hf;obtain⟨fl2,h3,hf⟩:=Q6 hf;refine .inr ⟨go i hlt,Mm K own σ0 F1 (λe=>lU own g f (items.drop (i+1)) e=some fl) (λσ F H e=>qP K (W1++W2) σ F H e D fl),λσ' H' r=>⟨items.length-(i+1),by lia,rfl,hlt,r⟩,λx H' hy=>?_⟩;obtain⟨F',sH,sF',sm',fz,hx⟩:=yld i items[i] x H' (SN hlt) hy;obtain⟨R',X'⟩:=R.step sH sF' sm' fz;refine⟨F',e,items[i],e2,R',hx,h2,λσ2 x2 R2=>⟨F',e2,fl2,R2,h3,?_⟩⟩;have q2:qP K (W1++W2) σ2 F' H' e2 D fl:=(q.later (W1:=[]) (W2:=W1++W2) X'.s (λj h=>by cases h) λj h=>h).later x2 s1 λj h=>h
  have w2:∀p∈own,σ2[p.1]?=σ0[p.1]?:=λp hp=>(x2.wr p.1 λz=>hW' p hp (s1 _ z)).trans (hσ p hp);cases fl2 with|nx e3=>
   intro F3 H3 σ3 x3 R3;dsimp only at hf;split at hf;case isFalse=>cases hf
   case isTrue kp3=>exact .mk R3 kp3 (λp hp=>(x3.wr p.1 λz=>hW' p hp (s2 _ z)).trans (w2 p hp)) (sF.trans (sF'.trans x3.sf)) hf (q2.later x3 s2 λj h=>h)|ct e3=>
   intro F3 H3 σ3 x3 R3;dsimp only at hf;split at hf;case isFalse=>cases hf
   case isTrue kp3=>exact .mk R3 kp3 (λp hp=>(x3.wr p.1 λz=>hW' p hp (s2 _ z)).trans (w2 p hp)) (sF.trans (sF'.trans x3.sf)) hf (q2.later x3 s2 λj h=>h)|bk e3=>cases hf;exactλF3 H3 σ3 x3 R3=>q2 F3 H3 σ3 (x3.mono s2) R3|rt r e3=>cases hf;exactλF3 H3 σ3 v x3 R3 A3=>q2 F3 H3 σ3 v (x3.mono s2) R3 A3
 ·have hd:items.drop i=[]:=Vc (by lia);rw[hd]at hf;cases hf;exact .inl ⟨stop i (by lia),q F H σ d_.refl R⟩
end
def zJ:Option (Option Sv)->Bool|some (some (.l _))=>true|_=>false
theorem EN{s:Option (Option Sv)}:zJ s=true↔∃xs,s=some (some (.l xs)):=by
 unfold zJ;split;·simp
 ·rename_i h;constructor;·intro z;cases z
  ·rintro⟨xs,rfl⟩;exact absurd rfl (h xs)
def sI(pos:Nat->Option Nat)(ei e:En):En:=e.mapIdx λi s=>match s with
 |some (.l xs)=>match pos i with|some k=>(ei[k]?).join|none=>some (.l xs)
 |s=>s
theorem b6{pos:Nat->Option Nat}{ei e:En}{i:Nat}:(sI pos ei e)[i]?=(e[i]?).map λs=>match s with
 |some (.l xs)=>match pos i with|some k=>(ei[k]?).join|none=>some (.l xs)
 |s=>s:=by unfold sI;rw[List.getElem?_mapIdx]
structure wB (σ:L2.St) (e:En) (σi:L2.St) (ei:En) (pos:Nat->Option Nat):Prop where
 a:∀(i k:Nat) (xs:List Rh),e[i]?=some (some (.l xs))->pos i=some k->σi[k]?=σ[i]?
 b:∀(k:Nat) (ys:List Rh),ei[k]?=some (some (.l ys))->∃(i:Nat) (xs:List Rh),e[i]?=some (some (.l xs))/\pos i=some k/\σi[k]?=σ[i]?
section
variable{K:Rj}{σ σi σi':L2.St}{F H F' H':Hp}{e ei ei':En}{pos:Nat->Option Nat}
def Kh(e:En):Prop:=∀(i:Nat) (xss:List (List Rh)),e[i]?≠some (some (.n xss))
theorem wB.own(s:wB σ e σi ei pos)(hn:Kh ei){a:xM}{H H':Hp}(h:bi σi ei H a):∃(i k:Nat) (xs:List Rh),e[i]?=some (some (.l xs))/\pos i=some k/\σ[i]?=some (some (.ref a)):=by
 obtain⟨k,⟨ys,h1,h2⟩|⟨xss,_,_,h1,_⟩⟩:=h;·obtain⟨i,xs,g1,g2,g3⟩:=s.b k ys h1;exact⟨i,k,xs,g1,g2,by rw[<-g3];exact h2⟩
 ·exact absurd h1 (hn k xss)
theorem xY(R:bf K F H σ e)(s:wB σ e σi ei pos)(hnn:Kh ei)(sf:ao F F')(dom:∀a,H' a=none->H a=none)(fr:∀a vs,F a=none->H a=some (.lst vs)->¬bi σi ei H a->F' a=none)(lst:∀a vs,H a=some (.lst vs)->∃vs',H' a=some (.lst vs'))(tmp:∀a o,H a=some o->¬bi σi ei H a->H' a=some o)(fd:∀a (m:DI),F a=none->H a=some m.1->¬bi σi ei H a->F' a=none)(R':bf K F' H' σi' ei')(hσ:∀(i k:Nat) (xs:List Rh),e[i]?=some (some (.l xs))->pos i=some k->σi'[k]?=σi[k]?)(hsh:∀(i k:Nat) (xs:List Rh),e[i]?=some (some (.l xs))->pos i=some k->∃ys,ei'[k]?=some (some (.l ys))):bf K F' H' σ (sI pos ei' e)/\dX σ F H e F' H' (sI pos ei' e)/\∀a,bi σ (sI pos ei' e) H' a->bi σ e H a:=by
 have shp:∀i:Nat,(∃xs,(sI pos ei' e)[i]?=some (some (.l xs)))↔(∃xs,e[i]?=some (some (.l xs))):=by intro i;rw[b6];match h:e[i]? with
  |none=>simp|some none=>simp|some (some (.d x))=>simp|some (some (.n x))=>simp|some (some (.l xs))=>
   simp only[SE];constructor;·intro _;exact⟨xs,rfl⟩
   ·intro _;match hp:pos i with|none=>exact⟨xs,rfl⟩|some k=>obtain⟨ys,g⟩:=hsh i k xs h hp;exact⟨ys,by show some ((ei'[k]?).join)=_;rw[g];rfl⟩
 have oth:∀(i:Nat) (s:Sv),(∀xs,s≠.l xs)->((sI pos ei' e)[i]?=some (some s)↔e[i]?=some (some s)):=by
  intro i s hs;constructor;·intro h;rw[b6]at h;match h1:e[i]?,h with
   |some (some (.d y)),h=>exact h|some (some (.n y)),h=>exact h|some (some (.l ys)),h=>simp only[SE,Us]at h;match hp:pos i,h with|none,h=>cases h;exact absurd rfl (hs _)|some k,h=>obtain⟨zs,g⟩:=hsh i k ys h1 hp;change (ei'[k]?).join=_ at h;rw[g]at h;cases h;exact absurd rfl (hs _)
   |some none,h=>simp at h|none,h=>simp at h
  ·intro h;rw[b6,h];cases s with|d y=>rfl|n y=>rfl|l y=>exact absurd rfl (hs y)
 have out:∀i a,Fp σ e H i a->(∀k xs,e[i]?=some (some (.l xs))->pos i≠some k)->¬bi σi ei H a:=by intro i a hi hp z;obtain⟨j,k,ws,d1,d2,d3⟩:=s.own hnn (H':=H') z;have:i=j:=R.fp i j a hi (.inl ⟨ws,d1,d3⟩);subst this;exact hp k ws d1 d2
 have keep:∀i a o,Fp σ e H i a->(∀k xs,e[i]?=some (some (.l xs))->pos i≠some k)->H a=some o->H' a=some o:=λi a o hi hp ha=>tmp a o ha (out i a hi hp);have sown:∀a,bi σi ei H a->bi σ e H a:=λa z=>by obtain⟨j,k,ws,d1,d2,d3⟩:=s.own hnn (H':=H') z;exact⟨j,.inl ⟨ws,d1,d3⟩⟩
 have fs:∀i a,Fp σ (sI pos ei' e) H' i a↔Fp σ e H i a:=by
  intro i a;have key:∀xss l,e[i]?=some (some (.n xss))->σ[i]?=some (some (.ref l))->H' l=H l:=λxss l h1 h2=>by obtain⟨l',bs,g1,g2,g3,_⟩:=R.nst i xss h1;rw[h2]at g1;cases g1;rw[g3];exact keep i l _ (.inr ⟨xss,l,bs,h1,h2,g3,.inl rfl⟩) (λk xs z=>by rw[h1]at z;cases z) g3
  constructor
  ·rintro(⟨xs,h1,h2⟩|⟨xss,l,bs,h1,h2,h3,h4⟩);·obtain⟨ys,h⟩:=(shp i).mp ⟨xs,h1⟩;exact .inl ⟨ys,h,h2⟩
   ·have h1':=(oth i (.n xss) (λ_ z=>nomatch z)).mp h1;exact .inr ⟨xss,l,bs,h1',h2,by rw[<-key xss l h1' h2];exact h3,h4⟩
  ·rintro(⟨xs,h1,h2⟩|⟨xss,l,bs,h1,h2,h3,h4⟩);·obtain⟨ys,h⟩:=(shp i).mpr ⟨xs,h1⟩;exact .inl ⟨ys,h,h2⟩
   ·exact .inr ⟨xss,l,bs,(oth i (.n xss) (λ_ z=>nomatch z)).mpr h1,h2,by rw[key xss l h1 h2];exact h3,h4⟩
 refine⟨⟨R'.sm,?_,λi x h=>?_,λi xs h=>?_,λi xss h=>?_,λi j a h1 h2=>R.fp i j a ((fs i a).mp h1) ((fs j a).mp h2)⟩,⟨sf,dom,λa vs h1 h2 n=>fr a vs h1 h2 λz=>n (sown a z),lst,λa o h n=>tmp a o h λz=>n (sown a z),shp,λa⟨i,h⟩=>.inl ⟨i,(fs i a).mp h⟩,λa m h1 h2 n=>fd a m h1 h2 λz=>n (sown a z)⟩,λa⟨i,h⟩=>⟨i,(fs i a).mp h⟩⟩;·unfold sI;rw[List.length_mapIdx];exact R.len
 ·obtain⟨v,g1,g2⟩:=R.dat i x ((oth i (.d x) (λ_ z=>nomatch z)).mp h);exact⟨v,g1,DA.mono sf g2⟩
 ·obtain⟨ys,h1⟩:=(shp i).mp ⟨xs,h⟩;obtain⟨l,vs,g1,g2,g3,g4⟩:=R.own i ys h1;rw[b6,h1]at h;simp only[SE,Us]at h;match hp:pos i,h with
  |none,h=>
   cases h;have np:∀k xs,e[i]?=some (some (Sv.l xs))->pos i≠some k:=λk xs _ z=>by rw[hp]at z;cases z
   have fi:Fp σ e H i l:=.inl ⟨_,h1,g1⟩;exact⟨l,vs,g1,fr l vs g2 g3 (out i l fi np),keep i l _ fi np g3,g4.mono sf⟩|some k,h=>obtain⟨zs,c1⟩:=hsh i k ys h1 hp;change (ei'[k]?).join=_ at h;rw[c1]at h;cases h;obtain⟨l',vs',d1,d2,d3,d4⟩:=R'.own k _ c1;rw[hσ i k ys h1 hp,s.a i k ys h1 hp]at d1;exact⟨l',vs',d1,d2,d3,d4⟩
 ·have h1:=(oth i (.n xss) (λ_ z=>nomatch z)).mp h;obtain⟨l,bs,g1,g2,g3,g4,g5,g6,g7⟩:=R.nst i xss h1;have np:∀k xs,e[i]?=some (some (Sv.l xs))->pos i≠some k:=λk xs z=>by rw[h1]at z;cases z
  have fi:Fp σ e H i l:=.inr ⟨xss,l,bs,h1,g1,g3,.inl rfl⟩;refine⟨l,bs,g1,fr l _ g2 g3 (out i l fi np),keep i l _ fi np g3,g4,g5,g6,λk b ys q1 q2=>?_⟩;obtain⟨c1,us,c2,c3⟩:=g7 k b ys q1 q2;have fb:Fp σ e H i b:=.inr ⟨xss,l,bs,h1,g1,g3,.inr (Rf q1)⟩;exact⟨fr b _ c1 c2 (out i b fb np),us,keep i b _ fb np c2,c3.mono sf⟩
end
def cm(e:En):List Rv->Option (List Sv)|[]=>some []|.d x::r=>(cm e r).map (.d x::·)|.l xs::r=>(cm e r).map (.d (.list xs)::·)|.s i::r=>match e[i]? with|some (some (.l xs))=>(cm e r).map (.l xs::·)|_=>none
def aL:List Rv->List Nat|[]=>[]|.s i::r=>i::aL r|.d _::r=>aL r|.l _::r=>aL r
def mB(rs:List Rv)(i:Nat):Option Nat:=rs.findIdx? λr=>match r with|.s j=>j==i|_=>false
def noS:Rv->Prop|.s _=>False|_=>True
abbrev FM:=List Sv->Option (Rv×List Sv)
def eu(K:Rj)(n:Nat)(m:FM):Sp:=λvs H Q _=>vs.length=n/\∃F as r as',bf K F H (vs.map some) (as.map some)/\Kh (as.map some)/\m as=some (r,as')/\noS r/\∀F' H' v,dX (vs.map some) F H (as.map some) F' H' (as'.map some)->bf K F' H' (vs.map some) (as'.map some)->cF K (vs.map some) H F' H' (as'.map some) r v->Q v H'
def bj:List Rv->List Sv->Bool|[],[]=>true|.s _::r,.l _::s=>bj r s|.d _::r,_::s=>bj r s|.l _::r,_::s=>bj r s|_,_=>false
def rm:Rv->Bool|.s _=>false|_=>true
def dP:List Rv->List Sv->En->En|.s i::r,.l ys::s,e=>dP r s (e.set i (some (.l ys)))|.d _::r,_::s,e=>dP r s e|.l _::r,_::s,e=>dP r s e|_,_,e=>e
def dG(n:Nat)(m:FM)(fs:FA):FE:=λe=>(fs e).bind λp=>(cm p.2 p.1).bind λas=>(m as).bind λz=>if p.1.length=n/\(aL p.1).Nodup/\bj p.1 z.2=true/\rm z.1=true then some (z.1,dP p.1 z.2 p.2) else none
theorem j0:∀{rs:List Rv}{as:List Sv},bj rs as=true->∀(k i:Nat),rs[k]?=some (.s i)->∃ys,as[k]?=some (.l ys)
 |[],[],_,k,i,h=>by simp at h|.s j::r,.l ys::s,h,k,i,hk=>by cases k with|zero=>exact⟨ys,rfl⟩|succ k=>simpa using j0 (rs:=r) (as:=s) (by simpa[bj]using h) k i (by simpa using hk)
 |.d x::r,y::s,h,k,i,hk=>by cases k with|zero=>simp at hk|succ k=>simpa using j0 (rs:=r) (as:=s) (by simpa[bj]using h) k i (by simpa using hk)
 |.l x::r,y::s,h,k,i,hk=>by cases k with|zero=>simp at hk|succ k=>simpa using j0 (rs:=r) (as:=s) (by simpa[bj]using h) k i (by simpa using hk)
 |.s _::_,.d _::_,h,_,_,_=>by simp[bj]at h|.s _::_,[],h,_,_,_=>by simp[bj]at h|.d _::_,[],h,_,_,_=>by simp[bj]at h|.l _::_,[],h,_,_,_=>by simp[bj]at h
theorem pb{r0:Rv}{rs:List Rv}{i:Nat}:mB (r0::rs) i=if (match r0 with|.s j=>j==i|_=>false)=true then some 0 else(mB rs i).map (·+1):=by unfold mB;rw[List.findIdx?_cons]
theorem pd{rs:List Rv}{i k:Nat}(h:mB rs i=some k):rs[k]?=some (.s i):=by
 unfold mB at h;rw[Wq]at h;obtain⟨hk,h1,_⟩:=h;rw[SN hk];split at h1;·rename_i heq;rw[heq];have:=eq_of_beq h1;rw[this]
 ·cases h1
theorem iy:∀{rs:List Rv}{i:Nat},i∈aL rs↔Rv.s i∈rs|[],i=>by simp[aL]|.s j::r,i=>by simp[aL,iy (rs:=r)]|.d x::r,i=>by simp[aL,iy (rs:=r)]|.l x::r,i=>by simp[aL,iy (rs:=r)]
theorem iP:∀{rs:List Rv}{i k j:Nat},(aL rs).Nodup->rs[k]?=some (.s i)->rs[j]?=some (.s i)->k=j
 |[],i,k,j,_,h,_=>by simp at h|.s m::r,i,k,j,hn,h1,h2=>by simp only[aL,Um]at hn;cases k with
  |zero=>simp at h1;subst h1;cases j with|zero=>rfl|succ j=>exact absurd (iy.mpr (Rf (by simpa using h2))) hn.1
  |succ k=>cases j with|zero=>simp at h2;subst h2;exact absurd (iy.mpr (Rf (by simpa using h1))) hn.1|succ j=>have:=iP (rs:=r) (i:=i) (k:=k) (j:=j) hn.2 (by simpa using h1) (by simpa using h2);lia
 |.d x::r,i,k,j,hn,h1,h2=>by cases k with|zero=>simp at h1|succ k=>cases j with|zero=>simp at h2|succ j=>have:=iP (rs:=r) (i:=i) (k:=k) (j:=j) (by simpa[aL]using hn) (by simpa using h1) (by simpa using h2);lia
 |.l x::r,i,k,j,hn,h1,h2=>by cases k with|zero=>simp at h1|succ k=>cases j with|zero=>simp at h2|succ j=>have:=iP (rs:=r) (i:=i) (k:=k) (j:=j) (by simpa[aL]using hn) (by simpa using h1) (by simpa using h2);lia
theorem C3{rs:List Rv}{i:Nat}(h:i∉aL rs):mB rs i=none:=by unfold mB;rw[VE];intro r hr;cases r with|d x=>rfl|l x=>rfl|s j=>have:j≠i:=λz=>h (by rw[<-z];exact iy.mpr hr);simpa using this
theorem qq:∀{rs:List Rv}{as:List Sv}{e:En},(aL rs).Nodup->bj rs as=true->(∀j∈aL rs,∃xs,e[j]?=some (some (.l xs)))->dP rs as e=sI (mB rs) (as.map some) e
 |[],[],e,_,_,_=>by refine Uj λi=>?_;rw[b6];have:mB [] i=none:=rfl;rw[this];simp only[dP];match e[i]? with|none=>rfl|some none=>rfl|some (some (.d x))=>rfl|some (some (.l x))=>rfl|some (some (.n x))=>rfl
 |.d x::r,y::s,e,hn,hl,hs=>by rw[show dP (.d x::r) (y::s) e=dP r s e from rfl,qq (by simpa[aL]using hn) (by simpa[bj]using hl) (λj hj=>hs j (by simpa[aL]using hj))];refine Uj λi=>?_;rw[b6,b6,pb];cases mB r i<;>simp|.l x::r,y::s,e,hn,hl,hs=>by rw[show dP (.l x::r) (y::s) e=dP r s e from rfl,qq (by simpa[aL]using hn) (by simpa[bj]using hl) (λj hj=>hs j (by simpa[aL]using hj))];refine Uj λi=>?_;rw[b6,b6,pb];cases mB r i<;>simp|.s k::r,.l ys::s,e,hn,hl,hs=>by
  simp only[aL,Um]at hn;obtain⟨xs,hk⟩:=hs k (by simp[aL]);have hlt:k<e.length:=(Q8 hk).1;rw[show dP (.s k::r) (.l ys::s) e=dP r s (e.set k (some (.l ys))) from rfl,qq hn.2 (by simpa[bj]using hl) (λj hj=>by have z:k≠j:=λz=>hn.1 (by rw[z];exact hj);rw[RI z];exact hs j (by simp[aL,hj]))];refine Uj λi=>?_;rw[b6,b6,pb];by_cases z:k=i;·subst z;rw[Sj hlt,hk,C3 hn.1];simp
  ·rw[RI z];have:((match (Rv.s k) with|.s j=>j==i|_=>false)=true)=False:=by simp[z]
   simp only[this,if_false];cases mB r i<;>simp|.s _::_,.d _::_,_,_,h,_=>by simp[bj]at h|.s _::_,.n _::_,_,_,h,_=>by simp[bj]at h|.s _::_,[],_,_,h,_=>by simp[bj]at h|.d _::_,[],_,_,h,_=>by simp[bj]at h|.l _::_,[],_,_,h,_=>by simp[bj]at h|[],_::_,_,_,h,_=>by simp[bj]at h
theorem gZ{e:En}:∀{rs:List Rv}{as:List Sv},cm e rs=some as->∀j∈aL rs,∃xs,e[j]?=some (some (.l xs))|[],_,_,j,h=>by simp[aL]at h|.d x::rs,as,q,j,h=>by obtain⟨as',q1,rfl⟩:=Q7 q;exact gZ q1 j (by simpa[aL]using h)|.l x::rs,as,q,j,h=>by obtain⟨as',q1,rfl⟩:=Q7 q;exact gZ q1 j (by simpa[aL]using h)|.s k::rs,as,q,j,h=>by unfold cm at q;match he:e[k]?,q with
 |some (some (.l xs)),q=>
  obtain⟨as',q1,rfl⟩:=Q7 q;simp only[aL,Su]at h;rcases h with rfl|h;·exact⟨xs,he⟩
  ·exact gZ q1 j h
theorem mN{e:En}:∀{rs:List Rv}{as:List Sv}{k i:Nat},cm e rs=some as->rs[k]?=some (.s i)->∃xs,as[k]?=some (.l xs)
 |[],_,k,i,_,h=>by simp at h|.d x::rs,as,k,i,q,h=>by obtain⟨as',q1,rfl⟩:=Q7 q;cases k with|zero=>simp at h|succ k=>simpa using mN (k:=k) (i:=i) q1 (by simpa using h)
 |.l x::rs,as,k,i,q,h=>by obtain⟨as',q1,rfl⟩:=Q7 q;cases k with|zero=>simp at h|succ k=>simpa using mN (k:=k) (i:=i) q1 (by simpa using h)
 |.s j::rs,as,k,i,q,h=>by unfold cm at q;match he:e[j]?,q with|some (some (.l xs)),q=>obtain⟨as',q1,rfl⟩:=Q7 q;cases k with|zero=>exact⟨xs,rfl⟩|succ k=>simpa using mN (k:=k) (i:=i) q1 (by simpa using h)
section
variable{X:Cx}{K:Rj}{σ:L2.St}{H0 H:Hp}{e:En}
theorem qm:∀{rs:List Rv}{vs:List V}{as:List Sv}{F:Hp},bf K F H σ e->eB K σ H0 F H e rs vs->cm e rs=some as->∃F',bf K F' H σ e/\ao F F'/\(∀a,F a=none->H0 a≠none->F' a=none)/\vs.length=as.length/\rs.length=as.length/\(∀(k:Nat) (x:Rh),as[k]?=some (.d x)->∃v,vs[k]?=some v/\DA K F' x v)/\∀(k:Nat) (xs:List Rh),as[k]?=some (.l xs)->∃i,rs[k]?=some (.s i)/\e[i]?=some (some (.l xs))/\∃v,vs[k]?=some v/\σ[i]?=some (some v)
 |[],vs,as,F,R,h,q=>by cases q;have h':vs=[]:=h;subst h';exact⟨F,R,ao.refl _,λ_ h _=>h,rfl,rfl,λk x h=>by simp at h,λk x h=>by simp at h⟩|.d x::rs,_,as,F,R,h,q=>by
  obtain⟨v,ws,rfl,h1,h2⟩:=h;obtain⟨as',q1,rfl⟩:=Q7 q;obtain⟨F',R',s',f',l1,l2,d',o'⟩:=qm R h2 q1;refine⟨F',R',s',f',by simp[l1],by simp[l2],λk y hk=>?_,λk ys hk=>?_⟩;·cases k with|zero=>simp at hk;subst hk;exact⟨v,rfl,DA.mono s' h1⟩|succ k=>simpa using d' k y (by simpa using hk)
  ·cases k with|zero=>simp at hk|succ k=>simpa using o' k ys (by simpa using hk)
 |.l xs::rs,_,as,F,R,h,q=>by
  obtain⟨v,ws,rfl,h1,h2⟩:=h;obtain⟨as',q1,rfl⟩:=Q7 q;obtain⟨F',R',s',f',l1,l2,d',o'⟩:=qm R h2 q1;have key:∃F2,bf K F2 H σ e/\ao F' F2/\(∀a,F' a=none->H0 a≠none->F2 a=none)/\DA K F2 (.list xs) v:=by obtain⟨l,us,rfl,g1,g2,g3,g4,g5⟩:=h1;cases hl:F' l with|none=>have h1':cF K σ H0 F' H e (.l xs) (.ref l):=⟨l,us,rfl,g1,hl,g3,aT.mono s' g4,g5⟩;obtain⟨F2,R2,s2,d2,f2⟩:=h1'.frozen R';exact⟨F2,R2,s2,f2,d2⟩|some o=>have:=R'.sm _ _ hl;rw[g3]at this;cases this;exact⟨F',R',ao.refl _,λ_ h _=>h,eC.mpr ⟨l,us,rfl,.inl (.inl hl),aT.mono s' g4⟩⟩
  obtain⟨F2,R2,s2,f2,d2⟩:=key;refine⟨F2,R2,s'.trans s2,λa ha hn=>f2 a (f' a ha hn) hn,by simp[l1],by simp[l2],λk y hk=>?_,λk ys hk=>?_⟩;·cases k with|zero=>simp at hk;subst hk;exact⟨v,rfl,d2⟩|succ k=>obtain⟨u,c1,c2⟩:=d' k y (by simpa using hk);exact⟨u,by simpa using c1,DA.mono s2 c2⟩
  ·cases k with|zero=>simp at hk|succ k=>simpa using o' k ys (by simpa using hk)
 |.s i::rs,_,as,F,R,h,q=>by obtain⟨v,ws,rfl,h1,h2⟩:=h;unfold cm at q;match he:e[i]?,q with
  |some (some (.l xs)),q=>
   obtain⟨as',q1,rfl⟩:=Q7 q;obtain⟨F',R',s',f',l1,l2,d',o'⟩:=qm R h2 q1;refine⟨F',R',s',f',by simp[l1],by simp[l2],λk y hk=>?_,λk ys hk=>?_⟩;·cases k with|zero=>simp at hk|succ k=>simpa using d' k y (by simpa using hk)
   ·cases k with|zero=>simp at hk;subst hk;exact⟨i,rfl,he,v,rfl,h1.1⟩|succ k=>simpa using o' k ys (by simpa using hk)
theorem ig{α:Type}{l:List α}{k:Nat}{x:α}:(l.map some)[k]?=some (some x)↔l[k]?=some x:=by rw[RY];cases l[k]?<;>simp
theorem cF.noS{σ':L2.St}{e':En}{F H:Hp}{r:Rv}{v:V}(h:cF K σ' H0 F H e' r v)(n:L2.noS r)(ho:∀a,bi σ e H a->H0 a≠none):cF K σ H0 F H e r v:=by cases r with|d x=>exact h|l xs=>obtain⟨l,vs,e1,h1,h2,h3,h4,_⟩:=h;exact⟨l,vs,e1,h1,h2,h3,h4,λz=>ho l z h1⟩|s i=>exact absurd n (by simp[L2.noS])
theorem jK:∀{rs:List Rv}{as:List Sv},cm e rs=some as->Kh (as.map some)
 |[],_,q=>by cases q;intro i xss h;simp at h|.d x::rs,as,q=>by obtain⟨as',q1,rfl⟩:=Q7 q;have ih:=jK q1;intro i xss h;cases i with|zero=>simp at h|succ i=>exact ih i xss (by simpa using h)
 |.l x::rs,as,q=>by obtain⟨as',q1,rfl⟩:=Q7 q;have ih:=jK q1;intro i xss h;cases i with|zero=>simp at h|succ i=>exact ih i xss (by simpa using h)
 |.s j::rs,as,q=>by unfold cm at q;match he:e[j]?,q with|some (some (.l xs)),q=>obtain⟨as',q1,rfl⟩:=Q7 q;have ih:=jK q1;intro i xss h;cases i with|zero=>simp at h|succ i=>exact ih i xss (by simpa using h)
theorem J3{n:Nat}{m:FM}{fs:FA}{Q:VK}{E:XK}(h:fE K (dG n m fs) σ H Q):sx (eu K n m) [] E (fA K fs) σ H Q:=by
 obtain⟨F,e,z,e',R,hf,q⟩:=h;unfold dG at hf;obtain⟨⟨rs,e1⟩,h1,hf⟩:=Q6 hf;obtain⟨as,h2,hf⟩:=Q6 hf;obtain⟨⟨r,as'⟩,h3,hf⟩:=Q6 hf;split at hf;case isFalse=>cases hf
 case isTrue hc=>
 obtain⟨c1,c2,c3,c4⟩:=hc;cases hf;refine⟨F,e,rs,e1,R,h1,λF1 H1 vs X1 R1 A1=>?_⟩;obtain⟨F2,R2,s2,f2,l1,l2,d2,o2⟩:=qm R1 A1 h2;have X2:=X1.frz s2 f2;rw[SQ];have hn:L2.noS r:=by cases r with|d x=>trivial|l x=>trivial|s i=>cases c4
 have nN:=jK h2;have RA:bf K F2 H1 (vs.map some) (as.map some):=by
  refine⟨R2.sm,by simp[l1],λk x hk=>?_,λk xs hk=>?_,λk xss hk=>absurd hk (nN k xss),λk j l f1 f2=>?_⟩;·obtain⟨v,g1,g2⟩:=d2 k x (ig.mp hk);exact⟨v,ig.mpr g1,g2⟩
  ·obtain⟨i,g1,g2,v,g3,g4⟩:=o2 k xs (ig.mp hk);obtain⟨l,us,k1,k2,k3,k4⟩:=R2.own i xs g2;rw[g4]at k1;cases k1;exact⟨l,us,ig.mpr g3,k2,k3,k4⟩
  ·obtain⟨xs,g1,g3⟩:=f1.resolve_right λ⟨xss,_,_,z,_⟩=>nN k xss z;obtain⟨ys,g2,g4⟩:=f2.resolve_right λ⟨xss,_,_,z,_⟩=>nN j xss z;obtain⟨i1,a1,a2,v1,a3,a4⟩:=o2 k xs (ig.mp g1);obtain⟨i2,b1,b2,v2,b3,b4⟩:=o2 j ys (ig.mp g2);have e1:=ig.mp g3;have e2:=ig.mp g4;rw[a3]at e1;cases e1;rw[b3]at e2;cases e2;have:i1=i2:=R2.inj i1 i2 xs ys l a2 b2 a4 b4;subst this;exact iP c2 a1 b1
 have sub:wB σ e1 (vs.map some) (as.map some) (mB rs):=by
  refine⟨λi k xs g1 g2=>?_,λk ys g1=>?_⟩;·have g3:=pd g2;obtain⟨zs,hs⟩:=mN h2 g3;obtain⟨i',a1,a2,v,a3,a4⟩:=o2 k zs hs;rw[g3]at a1;cases a1;rw[ig.mpr a3,a4]
  ·obtain⟨i,a1,a2,v,a3,a4⟩:=o2 k ys (ig.mp g1);refine⟨i,ys,a2,?_,by rw[ig.mpr a3,a4]⟩;cases hp:mB rs i with|none=>unfold mB at hp;rw[VE]at hp;have:=hp _ (Rf a1);simp at this|some j=>rw[iP c2 (pd hp) a1]
 refine⟨by rw[l1,<-l2];exact c1,F2,as,r,as',RA,nN,h3,hn,λF' H' v X3 R3 A3=>?_⟩;obtain⟨R4,X4,o4⟩:=xY R2 sub nN X3.sf X3.dom X3.fr X3.lst X3.tmp X3.fd R3 (λ_ _ _ _ _=>rfl) λi k xs g1 g2=>by obtain⟨ys,g3⟩:=j0 c3 k i (pd g2);exact⟨ys,ig.mpr g3⟩
 have hb:=qq (e:=e1) c2 c3 (gZ h2);rw[<-hb]at R4 X4 o4;exact q F' H' v (X2.trans X4) R4 ((A3.noS hn λa z=>R2.ownH a (o4 a z)).weak X2.dom)
theorem bP{x:Str}{st:Rx}{f:xM}{fd:RD}{ps:List Str}{k n:Nat}{m:FM}{a:Rl}{es:List Rl}{fs:FA}{p pos:Pos}(h:dO X.K X.mg x st f fd ps)(G:aG X.prog X.w X.K X.mg X.base ck k f fd ps (eu K n m))(hr:bX k X.A)(ha:PA X (a::es) (fA K fs))(hg:Gl X x)(hdb:(x==("__debug__":Str))=false)(he:RB (a::es) X.env=(false,RC a X.env)::RB es X.env)(hpl:(RP pos (RB es X.env)).any (·.1)=false):PE X (.Call (.Name x p) (a::es) [] pos) (fE K (dG n m fs)):=(Fy h G hr ha hg hdb he hpl).mono λ_ _ _ h=>J3 h
def uG:List Sv->En->Option (List Sv)
 |[],_=>some []|.d x::r,e=>(uG r e.tail).map (.d x::·)|.l _::r,e=>match e.head? with|some (some (.l ys))=>(uG r e.tail).map (.l ys::·)|_=>none
 |.n _::_,_=>none
def qO(n:Nat)(e:En):Rv->Option Rv|.s i=>if n<=i then match e[i]? with|some (some (.l xs))=>some (.l xs)|_=>none else none|r=>some r
def kf(W:List Nat)(as:List Sv):Bool:=W.all λj=>match as[j]? with|some (.l _)=>false|_=>true
def jf(n k:Nat)(W:List Nat)(f:FS):FM:=λas=>if as.length=n/\kf W as=true then(f (as.map some++RF k none)).bind λfl=>match fl with|.rt r e=>(qO n e r).bind λr'=>(uG as e).map λas'=>(r',as')|.nx e=>(uG as e).map λas'=>(.d .none,as')|_=>none else none
theorem qC:∀{as as':List Sv}{e:En},uG as e=some as'->as'.length=as.length/\(∀(j:Nat) (x:Rh),as'[j]?=some (.d x)↔as[j]?=some (.d x))/\(∀(j:Nat) (ys:List Rh),as'[j]?=some (.l ys)->(∃xs,as[j]?=some (.l xs))/\e[j]?=some (some (.l ys)))/\∀(j:Nat) (xs:List Rh),as[j]?=some (.l xs)->∃ys,as'[j]?=some (.l ys)
 |[],_,e,h=>by cases h;simp|.d x::r,_,e,h=>by
  obtain⟨s,h1,rfl⟩:=Q7 h;obtain⟨g1,g2,g3,g4⟩:=qC h1;refine⟨by simp[g1],λj y=>?_,λj ys hj=>?_,λj xs hj=>?_⟩;·cases j with|zero=>simp|succ j=>simpa using g2 j y
  ·cases j with|zero=>simp at hj|succ j=>obtain⟨c1,c2⟩:=g3 j ys (by simpa using hj);refine⟨by simpa using c1,?_⟩;rw[List.getElem?_tail]at c2;exact c2
  ·cases j with|zero=>simp at hj|succ j=>simpa using g4 j xs (by simpa using hj)
 |.l xs::r,_,e,h=>by unfold uG at h;match he:e.head?,h with
  |some (some (.l ys)),h=>
   obtain⟨s,h1,rfl⟩:=Q7 h;obtain⟨g1,g2,g3,g4⟩:=qC h1;refine⟨by simp[g1],λj y=>?_,λj zs hj=>?_,λj zs hj=>?_⟩;·cases j with|zero=>simp|succ j=>simpa using g2 j y
   ·cases j with|zero=>simp at hj;subst hj;exact⟨⟨xs,rfl⟩,by rw[List.head?_eq_getElem?]at he;exact he⟩|succ j=>obtain⟨c1,c2⟩:=g3 j zs (by simpa using hj);refine⟨by simpa using c1,?_⟩;rw[List.getElem?_tail]at c2;exact c2
   ·cases j with|zero=>exact⟨ys,rfl⟩|succ j=>simpa using g4 j zs (by simpa using hj)
 |.n x::r,_,e,h=>by simp[uG]at h
end
theorem f9{α:Type}{l:List (Option α)}{k i:Nat}{x:α}(h:(l++RF k none)[i]?=some (some x)):l[i]?=some (some x):=by
 rw[List.getElem?_append]at h;split at h;·exact h
 ·rw[VU]at h;split at h<;>simp at h
theorem gC{α:Type}{l:List (Option α)}{k i:Nat}{x:α}(h:l[i]?=some (some x)):(l++RF k none)[i]?=some (some x):=by have hi:i<l.length:=(Q8 h).1;rw[TC hi];exact h
section
variable{K:Rj}{F H:Hp}{σ:L2.St}{e:En}{k:Nat}
theorem vf{i:Nat}{a:xM}:Fp (σ++RF k none) (e++RF k none) H i a↔Fp σ e H i a:=by
 constructor
 ·rintro(⟨xs,h1,h2⟩|⟨xss,l,bs,h1,h2,h3⟩);·exact .inl ⟨xs,f9 h1,f9 h2⟩
  ·exact .inr ⟨xss,l,bs,f9 h1,f9 h2,h3⟩
 ·rintro(⟨xs,h1,h2⟩|⟨xss,l,bs,h1,h2,h3⟩);·exact .inl ⟨xs,gC h1,gC h2⟩
  ·exact .inr ⟨xss,l,bs,gC h1,gC h2,h3⟩
theorem ii{a:xM}:bi (σ++RF k none) (e++RF k none) H a↔bi σ e H a:=⟨λ⟨i,h⟩=>⟨i,vf.mp h⟩,λ⟨i,h⟩=>⟨i,vf.mpr h⟩⟩
theorem bf.pad(R:bf K F H σ e):bf K F H (σ++RF k none) (e++RF k none):=by
 refine⟨R.sm,by simp[R.len],λi x h=>?_,λi xs h=>?_,λi xss h=>?_,λi j a h1 h2=>R.fp i j a (vf.mp h1) (vf.mp h2)⟩;·obtain⟨v,g1,g2⟩:=R.dat i x (f9 h);exact⟨v,gC g1,g2⟩
 ·obtain⟨l,vs,g1,g2⟩:=R.own i xs (f9 h);exact⟨l,vs,gC g1,g2⟩
 ·obtain⟨l,bs,g1,g2⟩:=R.nst i xss (f9 h);exact⟨l,bs,gC g1,g2⟩
end
theorem wf:∀{as as':List Sv}{e:En},uG as e=some as'->Kh (as'.map some)
 |[],_,e,h=>by cases h;intro i xss z;simp at z|.d x::r,_,e,h=>by obtain⟨s,h1,rfl⟩:=Q7 h;have ih:=wf h1;intro i xss z;cases i with|zero=>simp at z|succ i=>exact ih i xss (by simpa using z)
 |.l xs::r,_,e,h=>by unfold uG at h;match he:e.head?,h with|some (some (.l ys)),h=>obtain⟨s,h1,rfl⟩:=Q7 h;have ih:=wf h1;intro i xss z;cases i with|zero=>simp at z|succ i=>exact ih i xss (by simpa using z)
 |.n x::r,_,e,h=>by simp[uG]at h
theorem xo{W:List Nat}{as:List Sv}(h:kf W as=true){j:Nat}{xs:List Rh}(hj:as[j]?=some (.l xs)):j∉W:=λz=>by unfold kf at h;have:=Sk.mp h j z;rw[hj]at this;cases this
section
variable{P:Rw}{w:Ro}{K:Rj}{mg:Str->Option Oq}{base:Ru}
theorem dO.fn{x:Str}{st:Rx}{f:xM}{fd:RD}{N ps:List Str}{k n k0:Nat}{W:List Nat}{fb:FS}(h:dO K mg x st f fd ps)(S:ay N ps (aj st))(hn:ps.length=n)(hN:N.length=n+k0)(hb:∀(cdv:Oq) (A:Rz) (outer:List Env) (s:Rg) (H:Hp) (E:XK),bX k (A.deeper (envOfC x (aj st) s.heap.objs.size f cdv))->ke (wR ck P w K mg base N x (aj st) f cdv A outer s H E).nox (cH st) (fS K fb W)):aG P w K mg base ck (k+1) f fd ps (eu K n (jf n k0 W fb)):=by
 refine h.F.ok S (λvs H Q E q=>?_) λcdv A outer s H vs Q E hr hsp=>⟨_,hb cdv A outer s H E hr,?_⟩;·rw[hn];exact q.1
 ·obtain⟨hl,F,as,r,as',R,nN,hm,nr,q⟩:=hsp;unfold jf at hm;split at hm;case isFalse=>cases hm
  case isTrue hc=>
  obtain⟨la,nl⟩:=hc;obtain⟨fl,h1,hm⟩:=Q6 hm;have hst:i5 N vs=vs.map some++RF k0 none:=by unfold i5;rw[hN,hl];congr 2;lia
  rw[hst];have key:∀{as':List Sv}{e':En},uG as e'=some as'->∀F' H' σ',d_ W (vs.map some++RF k0 none) F H (as.map some++RF k0 none) σ' F' H' e'->bf K F' H' σ' e'->dX (vs.map some) F H (as.map some) F' H' (as'.map some)/\bf K F' H' (vs.map some) (as'.map some)/\∀a,bi (vs.map some) (as'.map some) H' a->bi (vs.map some) (as.map some) H a:=by
   intro as' e' hu F' H' σ' X' R';obtain⟨u1,u2,u3,u4⟩:=qC hu;have uN:=wf hu;have ow:∀a,bi (vs.map some) (as'.map some) H' a->bi (vs.map some) (as.map some) H a:=by
    rintro a⟨j,⟨ys,c1,c2⟩|⟨xss,_,_,z,_⟩⟩;·obtain⟨⟨xs,c3⟩,_⟩:=u3 j ys (ig.mp c1);exact⟨j,.inl ⟨xs,ig.mpr c3,c2⟩⟩
    ·exact absurd z (uN j xss)
   have sg:∀(j:Nat) (xs:List Rh),as[j]?=some (.l xs)->σ'[j]?=(vs.map some)[j]?:=λj xs hj=>by
    rw[X'.wr j (xo nl hj)];have hj2:j<(vs.map some).length:=by rw[RQ,hl,<-la];exact(Q8 hj).1
    rw[TC hj2]
   refine⟨⟨X'.sf,X'.dom,λa vs h1 h2 hn=>X'.fr a vs h1 h2 λz=>hn (ii.mp z),X'.lst,λa o ha hn=>X'.tmp a o ha λz=>hn (ii.mp z),λj=>?_,λa z=>.inl (ow a z),λa m h1 h2 hn=>X'.fd a m h1 h2 λz=>hn (ii.mp z)⟩,⟨R'.sm,?_,λj y hj=>?_,λj ys hj=>?_,λj xss hj=>absurd hj (uN j xss),λj i l f1 f2=>?_⟩,ow⟩
   ·constructor;·rintro⟨ys,hj⟩;obtain⟨⟨xs,c⟩,_⟩:=u3 j ys (ig.mp hj);exact⟨xs,ig.mpr c⟩
    ·rintro⟨xs,hj⟩;obtain⟨ys,c⟩:=u4 j xs (ig.mp hj);exact⟨ys,ig.mpr c⟩
   ·simp[u1,hl,la]
   ·obtain⟨v,c1,c2⟩:=R.dat j y (ig.mpr ((u2 j y).mp (ig.mp hj)));exact⟨v,c1,DA.mono X'.sf c2⟩
   ·obtain⟨⟨xs,c1⟩,c2⟩:=u3 j ys (ig.mp hj);obtain⟨l,us,d1,d2⟩:=R'.own j ys c2;exact⟨l,us,by rw[<-sg j xs c1];exact d1,d2⟩
   ·obtain⟨xs,g1,g3⟩:=f1.resolve_right λ⟨xss,_,_,z,_⟩=>uN j xss z;obtain⟨ys,g2,g4⟩:=f2.resolve_right λ⟨xss,_,_,z,_⟩=>uN i xss z;obtain⟨⟨zs,c1⟩,c2⟩:=u3 j xs (ig.mp g1);obtain⟨⟨ws,c3⟩,c4⟩:=u3 i ys (ig.mp g2);exact R'.inj j i xs ys l c2 c4 (by rw[sg j zs c1];exact g3) (by rw[sg i ws c3];exact g4)
  refine⟨F,as.map some++RF k0 none,fl,R.pad,h1,?_⟩;cases fl with|bk e'=>cases hm|ct e'=>cases hm|nx e'=>obtain⟨as2,h2,hm⟩:=Q7 hm;cases hm;intro F' H' σ' X' R';obtain⟨X2,R2,_⟩:=key h2 F' H' σ' X' R';exact q F' H' .non X2 R2 ((fZ (K:=K) (F:=F')).mpr rfl)|rt r0 e'=>obtain⟨r1,h2,hm⟩:=Q6 hm;obtain⟨as2,h3,hm⟩:=Q7 hm;cases hm;intro F' H' σ' v X' R' A';obtain⟨X2,R2,ow2⟩:=key h3 F' H' σ' X' R';have noo:∀l,H l=none->¬bi (vs.map some) (as'.map some) H' l:=λl hl z=>R.ownH l (ow2 l z) hl;refine q F' H' v X2 R2 ?_;cases r0 with|d y=>cases h2;exact A'|l ys=>cases h2;obtain⟨l,us,d0,d1,d2,d3,d4,_⟩:=A';exact⟨l,us,d0,d1,d2,d3,d4,noo l d1⟩|s i=>
   simp only[qO]at h2;split at h2;case isFalse=>cases h2
   case isTrue hi=>
   obtain⟨a1,xs,a2⟩:=A';rw[a2]at h2;cases h2;obtain⟨l,us,d1,d2,d3,d4⟩:=R'.own i _ a2;rw[a1]at d1;cases d1;suffices hl0:H l=none from⟨l,us,rfl,hl0,d2,d3,d4,noo l hl0⟩;rcases X'.own l ⟨i,.inl ⟨_,a2,a1⟩⟩with z|z
   ·obtain⟨j,zf⟩:=ii.mp z;obtain⟨ys,z1,z2⟩:=zf.resolve_right λ⟨xss,_,_,z,_⟩=>nN j xss z;have z1':=ig.mp z1;obtain⟨u1,u2,u3,u4⟩:=qC h3;obtain⟨ws,w1⟩:=u4 j ys z1';obtain⟨_,w2⟩:=u3 j ws w1;have hj2:j<vs.length:=by rw[hl,<-la];exact(Q8 z1').1
    have e3:σ'[j]?=some (some (.ref l)):=by rw[X'.wr j (xo nl z1'),TC (by simpa using hj2)];exact z2
    have:=R'.inj i j _ ws l a2 w2 a1 e3;lia
   ·exact z
end
def KU:Option Sv->Option Sv|some (.n _)=>none|s=>s
def vj(cp:List (Nat×Str))(nT:Nat)(e:En):En:=cp.map (λp=>KU (e[p.1]?).join)++RF nT none
def o_(cp:List (Nat×Str))(i:Nat):Option Nat:=cp.findIdx? λp=>p.1==i
def gq(g:FG)(ft:FT)(fe:FE):List Rh->En->List Rh->Option (List Rh×En)|[],e,acc=>some (acc,e)|x::r,e,acc=>(g x e).bind λe1=>(ft e1).bind λb=>if b.1=true then(fe b.2).bind λv=>(iE v.1).bind λd=>if acc.length<1000000 then gq g ft fe r v.2 (acc++[d]) else none else gq g ft fe r b.2 acc
def jN(cp:List (Nat×Str))(ei e:En):Bool:=cp.all λp=>!zJ e[p.1]?||zJ ei[(o_ cp p.1).getD 0]?
def cw(cp:List (Nat×Str))(nT:Nat)(fi:FI)(g:FG)(ft:FT)(fe:FE):FE:=λe=>(fi e).bind λp=>if (p.2.1.all λq=>!(cp.any λc=>c.1==q.1))=true then(gq g ft fe p.1 (vj cp nT p.2.2) []).bind λz=>if jN cp z.2 p.2.2=true then some (.l z.1,sI (o_ cp) z.2 p.2.2) else none else none
section
variable{K:Rj}{F H:Hp}{σ:L2.St}{e:En}{cp:List (Nat×Str)}{nT:Nat}
theorem fM{i k:Nat}(h:o_ cp i=some k):∃s,cp[k]?=some (i,s):=by unfold o_ at h;rw[Wq]at h;obtain⟨hk,h1,_⟩:=h;refine⟨cp[k].2,?_⟩;rw[SN hk];have:=eq_of_beq h1;rw[<-this]
theorem lH{k:Nat}{x:Sv}(h:(vj cp nT e)[k]?=some (some x)):∃i s,cp[k]?=some (i,s)/\e[i]?=some (some x):=by unfold vj at h;have h:=f9 h;rw[RY]at h;obtain⟨p,h1,h2⟩:=Q7 h;refine⟨p.1,p.2,h1,?_⟩;cases q:e[p.1]? with|none=>rw[q]at h2;cases h2|some y=>rw[q]at h2;match y,h2 with|some (.d z),h2=>exact congrArg some h2|some (.l z),h2=>exact congrArg some h2|some (.n z),h2=>cases h2|none,h2=>cases h2
theorem nG:Kh (vj cp nT e):=by intro k xss h;unfold vj at h;have h:=f9 h;rw[RY]at h;obtain⟨p,h1,h2⟩:=Q7 h;match (e[p.1]?).join,h2 with|some (.d z),h2=>cases h2|some (.l z),h2=>cases h2|some (.n z),h2=>cases h2|none,h2=>cases h2
theorem qB{k i:Nat}{s:Str}{v:V}(h:cp[k]?=some (i,s))(hv:σ[i]?=some (some v)):(jD cp nT σ)[k]?=some (some v):=by unfold jD;refine gC ?_;rw[RY,h];simp[hv]
theorem se{k i:Nat}{s:Str}{v:V}(h:cp[k]?=some (i,s))(hv:(jD cp nT σ)[k]?=some (some v)):σ[i]?=some (some v):=by unfold jD at hv;have hv:=f9 hv;rw[RY,h]at hv;simp only[SE,Us]at hv;cases q:σ[i]? with|none=>rw[q]at hv;cases hv|some y=>rw[q]at hv;exact congrArg some hv
theorem uZ:∀{cp:List (Nat×Str)}{k j i:Nat}{s t:Str},(cp.map (·.1)).Nodup->cp[k]?=some (i,s)->cp[j]?=some (i,t)->k=j|[],k,j,i,s,t,_,h,_=>by simp at h|p::r,k,j,i,s,t,hn,h1,h2=>by simp only[Sb,Um]at hn;cases k with
 |zero=>simp at h1;subst h1;cases j with|zero=>rfl|succ j=>have hm:(i,t)∈r:=Rf (i:=j) (by simpa using h2);exact absurd (UG.mpr ⟨(i,t),hm,rfl⟩) hn.1
 |succ k=>cases j with|zero=>simp at h2;subst h2;have hm:(i,s)∈r:=Rf (i:=k) (by simpa using h1);exact absurd (UG.mpr ⟨(i,s),hm,rfl⟩) hn.1|succ j=>have:=uZ (cp:=r) (k:=k) (j:=j) hn.2 (by simpa using h1) (by simpa using h2);lia
theorem bf.inn(R:bf K F H σ e)(hn:(cp.map (·.1)).Nodup):bf K F H (jD cp nT σ) (vj cp nT e)/\wB σ e (jD cp nT σ) (vj cp nT e) (o_ cp):=by
 refine⟨⟨R.sm,by simp[jD,vj],λk x h=>?_,λk xs h=>?_,λk xss h=>absurd h (nG k xss),λk j l f1 f2=>?_⟩,⟨λi k xs h1 h2=>?_,λk ys h=>?_⟩⟩;·obtain⟨i,s,h1,h2⟩:=lH h;obtain⟨v,g1,g2⟩:=R.dat i x h2;exact⟨v,qB h1 g1,g2⟩
 ·obtain⟨i,s,h1,h2⟩:=lH h;obtain⟨l,vs,g1,g2⟩:=R.own i xs h2;exact⟨l,vs,qB h1 g1,g2⟩
 ·obtain⟨xs,h1,h3⟩:=f1.resolve_right λ⟨xss,_,_,z,_⟩=>nG k xss z;obtain⟨ys,h2,h4⟩:=f2.resolve_right λ⟨xss,_,_,z,_⟩=>nG j xss z;obtain⟨i,s,a1,a2⟩:=lH h1;obtain⟨i',s',b1,b2⟩:=lH h2;have:i=i':=R.inj i i' xs ys l a2 b2 (se a1 h3) (se b1 h4);subst this;exact uZ hn a1 b1
 ·obtain⟨s,g⟩:=fM h2;obtain⟨l,vs,g1,_⟩:=R.own i xs h1;rw[g1];exact qB g g1
 ·obtain⟨i,s,h1,h2⟩:=lH h;obtain⟨l,vs,g1,_⟩:=R.own i ys h2;refine⟨i,ys,h2,?_,by rw[g1];exact qB h1 g1⟩;cases hp:o_ cp i with|none=>unfold o_ at hp;rw[VE]at hp;have:=hp _ (Rf h1);simp at this|some j=>obtain⟨t,g⟩:=fM hp;rw[uZ hn g h1]
theorem bf.putT(R:bf K F H σ e){l:xM}{ws:List V}(h1:F l=none)(h2:¬bi σ e H l):bf K F (bg H l (.lst ws)) σ e/\∀a,bi σ e (bg H l (.lst ws)) a↔bi σ e H a:=R.keep (ao.refl F) (λb o q=>by
 have z:b≠l:=λz=>by rw[z,h1]at q;cases q
 rw[av z];exact R.sm b o q) (λa⟨i,h⟩=>(R.fpAt h).1) λa o ha q=>by have z:a≠l:=λz=>h2 (by rw[<-z];exact ha);rw[av z];exact q
theorem d_.putT{W:List Nat}{σ':L2.St}{F' H':Hp}{e':En}(x:d_ W σ F H e σ' F' H' e'){l:xM}{o:HO}(h:H l=none)(ho:∀a,bi σ' e' (bg H' l o) a↔bi σ' e' H' a):d_ W σ F H e σ' F' (bg H' l o) e':=by
 refine⟨x.sf,λa q=>?_,x.fr,λa vs q=>?_,λa u q n=>?_,λa q=>x.own a ((ho a).mp q),x.wr,x.fd⟩
 ·by_cases z:a=l;·rw[z];exact h
  ·rw[av z]at q;exact x.dom a q
 ·have z:a≠l:=λz=>by rw[z,h]at q;cases q
  rw[av z];exact x.lst a vs q
 ·have z:a≠l:=λz=>by rw[z,h]at q;cases q
  rw[av z];exact x.tmp a u q n
inductive CI (K:Rj) (W:List Nat) (σ0:L2.St) (F1 H1:Hp) (e0:En) (l:xM) (P:Hp->En->List Rh->Prop) (σ':L2.St) (H':Hp):Prop|mk{F':Hp}{ei:En}{acc:List Rh}{vs:List V}(R:bf K F' H' σ' ei) (X:d_ W σ0 F1 H1 e0 σ' F' H' ei) (fl:F' l=none) (no:¬bi σ' ei H' l) (hl:H' l=some (.lst vs)) (da:aT K F' acc vs) (hc:P F' ei acc):CI K W σ0 F1 H1 e0 l P σ' H'
theorem D'{Q:VK}{fi:FI}{g:FG}{W:List Nat}{ft:FT}{fe:FE}(hn:(cp.map (·.1)).Nodup)(hW:∀j∈W,cp.length<=j)(h:fE K (cw cp nT fi g ft fe) σ H Q):Ai cp nT (fI K fi) (fG K g W) (fT K ft) (fE K fe) σ H Q:=by
 obtain⟨F0,e0,z,e',R0,hf,q⟩:=h;unfold cw at hf;obtain⟨⟨items,own,e1⟩,h1,hf⟩:=Q6 hf;dsimp only at hf;split at hf;case isFalse=>cases hf
 case isTrue hO=>
 obtain⟨⟨out,eo⟩,h2,hf⟩:=Q6 hf;dsimp only at hf;split at hf;case isFalse=>cases hf
 case isTrue hB=>
 cases hf;refine⟨⟨F0,e0,items,own,e1,R0,h1,λJ F1 H1 X1 R1 kp ok=>?_⟩⟩;intro l hl;obtain⟨Ri,sub⟩:=R1.inn (nT:=nT) hn;have hFl:F1 l=none:=R1.freeF hl;let Iv:Nat->L2.St->Hp->Prop:=λi=>CI K W (jD cp nT σ) F1 H1 (vj cp nT e1) l λ_ ei acc=>gq g ft fe (items.drop i) ei acc=some (out,eo);have notown:∀p∈own,∀a,σ[p.1]?=some (some (.ref a))->¬bi (jD cp nT σ) (vj cp nT e1) H1 a:=by rintro p hp a ha⟨k,zf⟩;obtain⟨xs,c1,c2⟩:=zf.resolve_right λ⟨xss,_,_,z,_⟩=>nG k xss z;obtain⟨i,s,d1,d2⟩:=lH c1;have e2:=se d1 c2;have:p.1=i:=R1.inj p.1 i p.2 xs a (kp p hp) d2 ha e2;have hh:=Sk.mp hO p hp;simp only[Bool.not_eq_true',List.any_eq_false,beq_iff_eq]at hh;exact hh (i,s) (Rf d1) this.symm
 refine⟨λi m σ' H'=>m=items.length-i/\i<=items.length/\Iv i σ' H',⟨items.length,by simp,Tq _,.mk (Ri.putT hFl (λz=>(Ri.ownH l z) hl)).1 (d_.refl.putT hl (Ri.putT hFl (λz=>(Ri.ownH l z) hl)).2) hFl (λz=>(Ri.ownH l (((Ri.putT hFl (λz=>(Ri.ownH l z) hl)).2 l).mp z)) hl) au aT.nil h2⟩,?_⟩;rintro i m σ' H'⟨rfl,hi,⟨R',X',fl,no,hl',da,hc⟩⟩;rename_i F' ei acc vs;have held:Bp K σ F' H' own:=λp hp=>by obtain⟨a,us,c1,c2,c3,c4⟩:=R1.own p.1 p.2 (kp p hp);exact⟨a,us,c1,X'.tmp a _ c3 (notown p hp a c1),c4.mono X'.sf⟩
 obtain⟨go,stop,yld⟩:=ok F' H' X'.sf R'.sm held;by_cases hlt:i<items.length
 ·have hd:items.drop i=items[i]::items.drop (i+1):=Vb hlt;rw[hd]at hc;unfold gq at hc;obtain⟨e2,c2,hc⟩:=Q6 hc;obtain⟨⟨b,e3⟩,c3,hc⟩:=Q6 hc;refine .inr ⟨go i hlt,Iv (i+1),λσ2 H2 r=>⟨items.length-(i+1),by lia,rfl,hlt,r⟩,λx H2 hy=>?_⟩;obtain⟨F2,sH,sF2,sm2,fz,hx⟩:=yld i items[i] x H2 (SN hlt) hy;obtain⟨R2,X2⟩:=R'.step sH sF2 sm2 fz;refine⟨F2,ei,items[i],e2,R2,hx,c2,λσ3 X3 R3=>⟨F2,e2,b,e3,R3,c3,λF4 H4 X4 R4=>?_⟩⟩;have hlH2:H2 l=some (.lst vs):=sH _ _ hl';have no2:¬bi σ' ei H2 l:=λz=>by
   rcases X2.ow l z with z|z;·exact no z
   ·rw[hl']at z;cases z
  have no3:¬bi σ3 e2 H2 l:=λz=>by
   rcases X3.own l z with z|z;·exact no2 z
   ·rw[hlH2]at z;cases z
  have fl2:F2 l=none:=fz l fl (by rw[hl'];simp);have hlH4:H4 l=some (.lst vs):=X4.tmp l _ hlH2 no3;have fl4:F4 l=none:=X4.fr l vs fl2 hlH2 no3;have no4:¬bi σ3 e3 H4 l:=λz=>by
   rcases X4.ow l z with z|z;·exact no3 z
   ·rw[hlH2]at z;cases z
  have E4:d_ W (jD cp nT σ) F1 H1 (vj cp nT e1) σ3 F4 H4 e3:=((X'.trans X2.s).trans X3).trans X4.s;cases b with|false=>rw[if_neg (by simp)]at hc;exact Ic (.mk R4 E4 fl4 no4 hlH4 (da.mono (sF2.trans X4.sf)) hc)|true=>
   rw[if_pos rfl]at hc;obtain⟨⟨r,e5⟩,c5,hc⟩:=Q6 hc;obtain⟨d,c6,hc⟩:=Q6 hc;split at hc;case isFalse=>cases hc
   case isTrue hlen=>
   refine Ie ⟨F4,e3,r,e5,R4,c5,λF5 H5 v X5 R5 A5=>?_⟩;have hlH5:H5 l=some (.lst vs):=X5.tmp l _ hlH4 no4;have fl5:F5 l=none:=X5.fr l vs fl4 hlH4 no4;have no5:¬bi σ3 e5 H5 l:=λz=>by
    rcases X5.ow l z with z|z;·exact no4 z
    ·rw[hlH4]at z;cases z
   obtain⟨F6,R6,s6,d6,f6⟩:=eB.frozen R5 (rs:=[r]) (vs:=[v]) ⟨v,[],rfl,A5,rfl⟩ (AC c6);have fl6:F6 l=none:=f6 l fl5 (by rw[hlH4];simp);have X6:=X5.frz s6 f6;have ll:=da.len;have sl:RH=16777216:=SK;have dv:DA K F6 d v:=by simp only[aT]at d6;obtain⟨v',r',e',hv,_⟩:=d6;cases e';exact hv
   obtain⟨R7,o7⟩:=R6.putT (ws:=vs++[v]) fl6 no5;exact⟨vs,hlH5,by lia,.mk R7 ((E4.trans X6.s).putT hl o7) fl6 (λz=>no5 ((o7 l).mp z)) au ((da.mono (sF2.trans (X4.sf.trans (X5.sf.trans s6)))).append (aT.one dv)) hc⟩
 ·have hd:items.drop i=[]:=Vc (by lia);rw[hd]at hc;cases hc;refine .inl ⟨stop i (by lia),?_⟩;obtain⟨R9,X9,o9⟩:=xY R1 sub nG X'.sf X'.dom X'.fr X'.lst X'.tmp X'.fd R' (λi k xs g1 g2=>X'.wr k λz=>by obtain⟨s,g⟩:=fM g2;have:=(Q8 g).1;have:=hW k z;lia) λi k xs g1 g2=>by obtain⟨s,g⟩:=fM g2;unfold jN at hB;have hb:=Sk.mp hB _ (Rf g);simp only[g1,g2,Vx,zJ,Bool.not_true,Bool.false_or]at hb;exact EN.mp hb
  exact q F' H' (.ref l) (X1.trans X9) R9 ⟨l,vs,rfl,X1.dom l hl,fl,hl',da,λz=>R1.ownH l (o9 l z) hl⟩
end
section
variable{X:Cx}{K:Rj}{a b:Rl}{es:List Rl}{fa fb:FE}{fs:FA}{pos p p2 p3:Pos}{lo hi:Option Rl}
def HW:En->Rv->Option Rv:=λ_ x=>(cG x).map λi=>.d (.int (-i))
theorem K6:Ka K (rU λi=>.int (-i)) HW:=by intro σ H0 F H e x z v Q R A hg q;obtain⟨i,h5,h4⟩:=Q7 hg;cases h4;exact⟨i,df A h5,q F H _ (dX.refl _ _ _ _) R rT⟩
theorem Lj(ha:PE X a (fE K fa)):PE X (.UnaryOp .USub a pos) (fE K (ww HW fa)):=Lm J2 K6 ha
theorem dJ(hK:X.K=K)(ha:PE X a (fE K fa))(hb:PE X b (fE K fb)):PE X (.BinOp a .Add b pos) (fE K (aA cP fa fb)):=rL (hK▸zN) GO ha hb
theorem De(ha:PE X a (fE K fa))(hb:PE X b (fE K fb)):PE X (.BinOp a .Sub b pos) (fE K (aA oS fa fb)):=rL Jn LG ha hb
theorem uk(hK:X.K=K)(ha:PE X a (fE K fa))(hb:PE X b (fE K fb)):PE X (.BinOp a .Mult b pos) (fE K (aA qV fa fb)):=rL (hK▸Fs) K5 ha hb
theorem lh(ha:PE X a (fE K fa))(hb:PE X b (fE K fb)):PE X (.BinOp a .FloorDiv b pos) (fE K (aA iF fa fb)):=rL CN HS ha hb
theorem bG(ha:PE X a (fE K fa))(hb:PE X b (fE K fb)):PE X (.BinOp a .Mod b pos) (fE K (aA bK fa fb)):=rL Fq K4 ha hb
theorem Hb(ha:PE X a (fE K fa))(hb:PE X b (fE K fb)):PE X (.BinOp a .Pow b pos) (fE K (aA yy fa fb)):=rL Jl Lf ha hb
theorem cu(hK:X.K=K)(ha:PE X a (fE K fa))(hb:PE X b (fE K fb))(hs:mM b):PE X (.Subscript a b pos) (fE K (aA dI fa fb)):=Ll (hK▸KN) KO ha hb hs
theorem qt{fl fh:FO}(hK:X.K=K)(he:PE X a (fE K fa))(hl:PO X lo (fO K fl))(hh:PO X hi (fO K fh)):PE X (.Subscript a (.Slice lo hi none p2) pos) (fE K (yg fa fl fh)):=by subst hK;exact Dl he hl hh
structure p9 (X:Cx) (K:Rj) (op:CmpOp) (g:En->Rv->Rv->Option Rv):Prop where ex:∃r,iW X (SD op) r/\iR K r g
theorem Ew:p9 X K .Lt G0:=⟨_,La,MY⟩
theorem BE:p9 X K .Gt GY:=⟨_,K',ML⟩
theorem BD:p9 X K .GtE GX:=⟨_,K_,MJ⟩
theorem iS{k:Nat}(hK:X.K=K)(hr:bX k X.A):p9 X K .Eq (bc false):=⟨_,hK▸Je hr,GV⟩
theorem ym{k:Nat}(hK:X.K=K)(hr:bX k X.A):p9 X K .NotEq (bc true):=⟨_,hK▸Jk hr,GV⟩
theorem Av{k:Nat}(hK:X.K=K)(hr:bX k X.A):p9 X K .In (yf false):=⟨_,hK▸Jf hr,KD⟩
theorem Ex{k:Nat}(hK:X.K=K)(hr:bX k X.A):p9 X K .NotIn (yf true):=⟨_,hK▸AY hr,KD⟩
theorem Ku:p9 X K .Is Kf:=⟨_,Jg,MQ⟩
theorem uV:p9 X K .IsNot mx:=⟨_,AW,EO⟩
theorem rK{op:CmpOp}{g:En->Rv->Rv->Option Rv}(h:p9 X K op g)(ha:PE X a (fE K fa))(hb:PE X b (fE K fb))(hm:To op b=false):PE X (.Compare a [op] [b] pos) (fE K (aA g fa fb)):=by obtain⟨r,h1,h2⟩:=h.ex;exact JC h1 h2 ha hb hm
theorem aQ{op:CmpOp}{g:En->Rv->Rv->Option Rv}(h:p9 X K op g)(ha:PE X a (fE K fa))(hb:PE X b (fE K fb))(hm:To op b=false):PT X (.Compare a [op] [b] pos) (fT K (az (aA g fa fb))):=by obtain⟨r,h1,h2⟩:=h.ex;exact JE h1 h2 ha hb hm
structure mi (X:Cx) (K:Rj) (x:Str) (g:En->List Rv->Option Rv):Prop where ex:(∃id r,dN X (.builtin id) r/\dH K r g/\Tn x=some (.builtin id))\/∃T r,dN X (.type T) r/\dH K r g/\Tn x=some (.type T)
theorem a_{x:Str}{g:En->List Rv->Option Rv}(h:mi X K x g)(hg:Gl X x)(hm:X.mg x=none)(ha:PA X (a::es) (fA K fs))(hn:x≠"__name__")(hdb:(x==("__debug__":Str))=false)(he:RB (a::es) X.env=(false,RC a X.env)::RB es X.env)(hpl:(RP pos (RB es X.env)).any (·.1)=false):PE X (.Call (.Name x p) (a::es) [] pos) (fE K (aJ g fs)):=by
 rcases h.ex with⟨id,r,h1,h2,h3⟩|⟨T,r,h1,h2,h3⟩;·exact Di h1 h2 hg hm h3 ha hn hdb he hpl
 ·exact A4 h1 h2 hg hm h3 ha hn hdb he hpl
theorem b_len(hK:X.K=K):mi X K "len" (g1 iT):=⟨.inl ⟨_,_,hK▸uW,KR,PySem.boot_len⟩⟩
theorem b_abs:mi X K "abs" (g1 AD):=⟨.inl ⟨_,_,BF,Kn,PyProof.Rows.boot_abs⟩⟩
theorem b_min(hc:X.calm=true):mi X K "min" (g2 BY):=⟨.inl ⟨_,_,Ay hc,K3,PyProof.Rows.boot_min⟩⟩
theorem b_max(hc:X.calm=true):mi X K "max" (g2 AH):=⟨.inl ⟨_,_,Ax hc,K2,PyProof.Rows.boot_max⟩⟩
theorem b_int:mi X K "int" (g1 yx):=⟨.inr ⟨_,_,Aw,KF,PyProof.Rows.boot_int⟩⟩
theorem b_tuple(hK:X.K=K):mi X K "tuple" (g1 eL):=⟨.inr ⟨_,_,hK▸sS,Gy,PyProof.Rows.boot_tuple⟩⟩
theorem HF(hK:X.K=K):mi X K "list" (g1 GZ):=⟨.inr ⟨_,_,hK▸uX,IK,PyProof.Rows.boot_list⟩⟩
theorem b_sum{k:Nat}(hK:X.K=K)(hr:bX k X.A):mi X K "sum" (g1 (jm tZ)):=⟨.inl ⟨_,_,hK▸BI hr,LI,PyProof.Rows.boot_sum⟩⟩
theorem b_all{k:Nat}(hK:X.K=K)(hr:bX k X.A):mi X K "all" (g1 (jm wY)):=⟨.inl ⟨_,_,BG hr hK,Ko,BC⟩⟩
theorem b_sorted(hK:X.K=K):mi X K "sorted" (g1 fB):=⟨.inl ⟨_,_,hK▸yq,Gj,PyProof.Rows.boot_sorted⟩⟩
abbrev jG:FT:=λe=>some (true,e)
theorem Bs.mono{ifs:List Rl}{t t':TT}(h:Bs X ifs t)(m:∀σ H Q,t' σ H Q->t σ H Q):Bs X ifs t':=λpins s σ H Q I q=>h pins s σ H Q I (m σ H Q q)
theorem qA:Bs X [] (fT K jG):=zQ.mono λσ H Q h=>by obtain⟨F,e,b,e',R,hf,q⟩:=h;cases hf;exact q F H (dX.refl _ _ _ _) R
theorem ka{c:Rl}{ft:FT}(h:PT X c (fT K ft)):Bs X [c] (fT K ft):=FR h
variable{o:Rl}{fo:FE}{apos cpos:Pos}
theorem iJ(hK:X.K=K)(ho:PE X o (fE K fo))(ha:PA X (a::es) (fA K fs))(hbase:SU o "append" X.env (RC o X.env)=RC o X.env)(hfew:((RP cpos (RB (a::es) X.env)).all (λx=>!x.1)&&(Tz cpos (TB [] X.env)).all (λx=>x.1.isSome)&&decide ((a::es).length+([]:List SL).length+(if ([]:List SL).isEmpty then 0 else 1)<30))=true)(hline:(apos.endLine==cpos.line)=true)(hs:RB (a::es) X.env=(false,RC a X.env)::RB es X.env)(hplain:(RP cpos (RB es X.env)).any (·.1)=false):PE X (.Call (.Attribute o "append" apos) (a::es) [] cpos) (fE K (cx bR fo fs)):=by subst hK;exact Hc PySem.F.slot_list_append PySem.F.type_list_append ug Bw ho ha hbase hfew hline hs hplain
theorem FW(hK:X.K=K)(ho:PE X o (fE K fo))(ha:PA X (a::es) (fA K fs))(hbase:SU o "pop" X.env (RC o X.env)=RC o X.env)(hfew:((RP cpos (RB (a::es) X.env)).all (λx=>!x.1)&&(Tz cpos (TB [] X.env)).all (λx=>x.1.isSome)&&decide ((a::es).length+([]:List SL).length+(if ([]:List SL).isEmpty then 0 else 1)<30))=true)(hline:(apos.endLine==cpos.line)=true)(hs:RB (a::es) X.env=(false,RC a X.env)::RB es X.env)(hplain:(RP cpos (RB es X.env)).any (·.1)=false):PE X (.Call (.Attribute o "pop" apos) (a::es) [] cpos) (fE K (cx fF fo fs)):=by subst hK;exact Hc Vs PySem.F.type_list_pop Ct FN ho ha hbase hfew hline hs hplain
theorem Ha(hK:X.K=K)(ho:PE X o (fE K fo))(hbase:SU o "pop" X.env (RC o X.env)=RC o X.env)(hline:(apos.endLine==cpos.line)=true):PE X (.Call (.Attribute o "pop" apos) [] [] cpos) (fE K (cx nL fo ah)):=by subst hK;exact Dh Vs PySem.F.type_list_pop IR Le ho hbase hline
end
theorem y4{K:Rj}{H:Hp}{a:xM}{ns:List Int}{m:FM}{as':List Sv}{Q:VK}{E:XK}(hS:fX K H a (ns.map V.int))(hm:m [.d (.list (ns.map .int))]=some (.d (.bool true),as'))(q:∀H',Q (.bl true) H'):eu K 1 m [.ref a] H Q E:=by
 refine⟨rfl,H,[.d (.list (ns.map .int))],_,as',?_,?_,hm,trivial,λF' H' v X' R' A'=>?_⟩
 ·refine⟨ao.refl _,rfl,λi x h=>?_,λi xs h=>?_,λi xss h=>?_,λi j l f1 _=>?_⟩;·match i,h with|0,h=>simp at h;subst h;exact⟨.ref a,rfl,eC.mpr ⟨a,_,rfl,hS,aT.ints.mpr rfl⟩⟩|i+1,h=>simp at h
  ·match i,h with|0,h=>simp at h|i+1,h=>simp at h
  ·match i,h with|0,h=>simp at h|i+1,h=>simp at h
  ·rcases f1 with⟨_,h,_⟩|⟨_,_,_,h,_⟩;·match i,h with|0,h=>simp at h|i+1,h=>simp at h
   ·match i,h with|0,h=>simp at h|i+1,h=>simp at h
 ·intro i xss h;match i,h with|0,h=>simp at h|i+1,h=>simp at h
 ·rw[cS.mp (show DA K F' (.bool true) v from A')];exact q H'
section
variable{K:Rj}{σ:L2.St}{H0 F H F' H':Hp}{e e':En}
end
section
variable{X:Cx}{K:Rj}{a b:Rl}{es:List Rl}{fa fb:FE}{fs:FA}{pos p p2 p3 pos':Pos}{x:Str}{i:Nat}
def nC(k:Int):En->Option Int:=λ_=>some k
end
theorem oP{C:Int->Int->Bool}{f:Int->Int->Rh}{e:En}{i j:Int}(h:C i j=true):gI C f e (.d (.int i)) (.d (.int j))=some (.d (f i j)):=by simp[gI,cG,h]
theorem eG{e:En}{i j:Int}:cP e (.d (.int i)) (.d (.int j))=some (.d (.int (i+j))):=rfl
theorem cI{e:En}{i j:Int}:oS e (.d (.int i)) (.d (.int j))=some (.d (.int (i-j))):=rfl
theorem qW{e:En}{i j:Int}(h:oZ i j=true):qV e (.d (.int i)) (.d (.int j))=some (.d (.int (i*j))):=by unfold qV Ej BZ;rw[oP h];rfl
theorem Cv{i j:Int}(h1:-(2^64)<i)(h2:i<2^64):oZ i j=true:=by
 have:kc i=true:=by unfold kc;rw[decide_eq_true h1,decide_eq_true h2];rfl
 unfold oZ;rw[this];simp
theorem vH{i j:Int}(h1:-(2^64)<j)(h2:j<2^64):oZ i j=true:=by
 have:kc j=true:=by unfold kc;rw[decide_eq_true h1,decide_eq_true h2];rfl
 unfold oZ;rw[this];simp
theorem be{e:En}{i j:Int}(h:0<j):bK e (.d (.int i)) (.d (.int j))=some (.d (.int (i%j))):=by unfold bK;rw[oP (by simp;lia)];rw[Int.fmod_eq_emod_of_nonneg i (by lia)]
theorem iu{e:En}{i j:Int}(h:0<j)(h2:Bt 8000 j):iF e (.d (.int i)) (.d (.int j))=some (.d (.int (i/j))):=by unfold iF;rw[oP (by simp[mS.mpr h2];lia)];rw[Int.fdiv_eq_ediv_of_nonneg i (by lia)]
theorem g_{e:En}{i j:Int}{neg:Bool}:bc neg e (.d (.int i)) (.d (.int j))=some (.d (.bool (if neg then !(i==j) else i==j))):=by unfold bc;simp[iX,Sd,Sn,SF,Th]
theorem ie{e:En}{i j:Int}:G0 e (.d (.int i)) (.d (.int j))=some (.d (.bool (decide (i<j)))):=rfl
theorem h_{e:En}{i j:Int}:N6 e (.d (.int i)) (.d (.int j))=some (.d (.bool (decide (i<=j)))):=rfl
theorem hX{e:En}{i j:Int}:GY e (.d (.int i)) (.d (.int j))=some (.d (.bool (decide (j<i)))):=rfl
theorem hV{e:En}{i j:Int}:GX e (.d (.int i)) (.d (.int j))=some (.d (.bool (decide (j<=i)))):=rfl
theorem eI{e:En}{i j:Int}:g2 BY e [.d (.int i),.d (.int j)]=some (.d (.int (min i j))):=by show some (Rv.d (.int (if j<i then j else i)))=_;congr 3;split<;>lia
theorem eH{e:En}{i j:Int}:g2 AH e [.d (.int i),.d (.int j)]=some (.d (.int (max i j))):=by show some (Rv.d (.int (if j>i then j else i)))=_;congr 3;split<;>lia
theorem eJ{e:En}{i:Int}:HW e (.d (.int i))=some (.d (.int (-i))):=rfl
theorem dz{e:En}{b:Bool}:g1 yx e [.d (.bool b)]=some (.d (.int (if b then 1 else 0))):=rfl
theorem eF{e:En}{i:Int}:g1 AD e [.d (.int i)]=some (.d (.int i.natAbs)):=by show some (Rv.d (.int (if i<0 then-i else i)))=_;congr 3;split<;>lia
theorem oO{j:Int}(h1:0<j)(h2:j<2^64):Bt 8000 j:=Bt.mono (m:=64) (by unfold Bt;lia) (by decide)
theorem i9{α:Type}{xs:List α}{i:Int}(h0:0<=i)(h:i<xs.length):atI xs i=xs[i.toNat]?:=by unfold atI KM;rw[if_pos h0,if_pos h];rfl
theorem qT{e:En}{i:Nat}{xs:List Rh}{neg:Bool}(h:e[i]?=some (some (.l xs)))(hs:Sd (.list xs)=true):bc neg e (.s i) (.l [])=some (.d (.bool (if neg then !xs.isEmpty else xs.isEmpty))):=by
 unfold bc;simp only[iX,h,RK,hs];have h0:Sd (.list [])=true:=by simp[Sd,Sn,Tg,SF,TH]
 rw[h0];cases xs<;>simp[Th,PyData.eqvAll]
theorem lw(ns:List Int):Sd (.list (ns.map .int))=true/\Sd (.tuple (ns.map .int))=true:=by
 have h1:Tg (ns.map PyData.int)=true:=by induction ns with|nil=>rfl|cons n r ih=>simp[Tg,Sn,ih]
 have h2:TH (ns.map PyData.int)=0:=by clear h1;induction ns with|nil=>rfl|cons n r ih=>simp[TH,SF,ih]
 constructor<;>simp[Sd,Sn,SF,h1,h2]
theorem kR{own:jJ}{g:FG}{f:FS}(P:Nat->En->Prop):∀(items:List Rh) (k:Nat) (e:En),(∀i x e,items[i]?=some x->P (k+i) e->∃e1 e2,g x e=some e1/\f e1=some (.nx e2)/\keeps own e2/\P (k+i+1) e2)->P k e->∃e',lU own g f items e=some (.nx e')/\P (k+items.length) e'|[],k,e,_,h=>⟨e,rfl,h⟩|x::r,k,e,hs,h=>by obtain⟨e1,e2,h1,h2,h3,h4⟩:=hs 0 x e rfl h;obtain⟨e',h5,h6⟩:=kR P r (k+1) e2 (λi y e hy hp=>by have:=hs (i+1) y e (by simpa using hy) (by rw[show k+(i+1)=k+1+i by lia];exact hp);rw[show k+(i+1)+1=k+1+i+1 by lia]at this;exact this) h4;refine⟨e',?_,by rw[Tp,show k+(r.length+1)=k+1+r.length by lia];exact h6⟩;unfold lU;simp only[h1,h2,RK,if_pos h3];exact h5
theorem er{e:En}:keeps [] e:=λ_ h=>by cases h
theorem lO{W:List Nat}{fi:FI}{g:FG}{f:FS}{e e1:En}{items:List Rh}(h:fi e=some (items,[],e1)):jd W fi g f e=lU [] g f items e1:=by unfold jd;rw[h];rfl
theorem eg{lo:Int}{n i:Nat}{x:Rh}(h:(bC lo n)[i]?=some x):x=.int (lo+i)/\i<n:=by unfold bC at h;rw[RY]at h;obtain⟨k,h1,rfl⟩:=Q7 h;obtain⟨h2,h3⟩:=Q8 h1;simp at h2 h3;subst h3;exact⟨rfl,h2⟩
theorem fR{lo:Int}{n:Nat}:(bC lo n).length=n:=by simp[bC]
theorem ee{fs:FA}{e e1:En}{n:Int}(h:fs e=some ([.d (.int n)],e1))(h1:-1000000<=n)(h2:n<=1000000):eP fs e=some (bC 0 n.toNat,[],e1):=by
 unfold eP;rw[h];have:DB n=true:=by unfold DB;rw[decide_eq_true h1,decide_eq_true h2];rfl
 simp[cG,this]
theorem sN{ft:FT}{f:FS}(P:En->Prop)(μ:En->Nat)(hs:∀e,P e->(∃e1,ft e=some (false,e1)/\True)\/∃e1 e2,ft e=some (true,e1)/\f e1=some (.nx e2)/\P e2/\μ e2<μ e):∀(n:Nat) (e:En),P e->μ e<n->∃e0 e',kd ft f n e=some (.nx e')/\P e0/\ft e0=some (false,e'):=by intro n;induction n with|zero=>intro e _ h;lia|succ n ih=>
 intro e hp hm;rcases hs e hp with⟨e1,h1,_⟩|⟨e1,e2,h1,h2,h3,h4⟩;·exact⟨e,e1,by unfold kd;rw[h1];rfl,hp,h1⟩
 ·obtain⟨e0,e',g1,g2⟩:=ih e2 h3 (by lia);exact⟨e0,e',by unfold kd;rw[h1];simp only[RK,if_true,h2];exact g1,g2⟩
theorem em{cs:En}{ft:FT}{fe:FE}{b:Rh->Bool}{y:Rh->Rh}:∀(items:List Rh) (t:Option Sv) (acc:List Rh),(∀x∈items,ft (cs++[some (.d x)])=some (b x,cs++[some (.d x)]))->(∀x∈items,b x=true->fe (cs++[some (.d x)])=some (.d (y x),cs++[some (.d x)]))->acc.length+items.length<=1000000->∃t',gq (am cs.length) ft fe items (cs++[t]) acc=some (acc++(items.filter b).map y,cs++[t'])
 |[],t,acc,_,_,_=>⟨t,by simp[gq]⟩|x::r,t,acc,h1,h2,hl=>by
  have hg:am cs.length x (cs++[t])=some (cs++[some (.d x)]):=by simp[am]
  have h1x:=h1 x (by simp);unfold gq;rw[hg];simp only[RK,h1x];cases hb:b x with|true=>simp only[if_true,h2 x (by simp) hb,RK,iE];rw[if_pos (by simp at hl;lia)];obtain⟨t',ih⟩:=em (b:=b) (y:=y) r (some (.d x)) (acc++[y x]) (λz hz=>h1 z (by simp[hz])) (λz hz=>h2 z (by simp[hz])) (by simp at hl⊢;lia);exact⟨t',by rw[ih];simp[hb]⟩|false=>simp only[Vy,if_false];obtain⟨t',ih⟩:=em (b:=b) (y:=y) r (some (.d x)) acc (λz hz=>h1 z (by simp[hz])) (λz hz=>h2 z (by simp[hz])) (by simp at hl;lia);exact⟨t',by rw[ih];simp[hb]⟩
theorem sL{cp:List (Nat×Str)}{nT:Nat}{fi:FI}{g:FG}{ft:FT}{fe:FE}{e e1 eo:En}{items out:List Rh}(h1:fi e=some (items,[],e1))(h3:gq g ft fe items (vj cp nT e1) []=some (out,eo))(h4:(cp.all λp=>!zJ e1[p.1]?)=true):cw cp nT fi g ft fe e=some (.l out,e1):=by
 unfold cw;rw[h1];simp only[RK,List.all_nil,if_true,h3];have hb:jN cp eo e1=true:=by unfold jN;rw[Sk]at h4⊢;intro p hp;rw[h4 p hp];rfl
 rw[if_pos hb];congr 2;refine Uj λi=>?_;rw[b6];match hi:e1[i]? with|none=>rfl|some none=>rfl|some (some (.d x))=>rfl|some (some (.n x))=>rfl|some (some (.l x))=>cases hp:o_ cp i with|none=>simp[hp]|some k=>obtain⟨s,hs⟩:=fM hp;have:=Sk.mp h4 _ (Rf hs);simp[hi,zJ]at this
theorem oU{fa:FE}{e e1:En}{xs:List Rh}(h:fa e=some (.d (.tuple xs),e1)):kW fa e=some (xs,[],e1):=by unfold kW;rw[h];rfl
theorem oI{cp:List (Nat×Str)}{nT:Nat}{fi:FI}{g:FG}{ft:FT}{fe:FE}{e e1 cs:En}{t t':En}{items out:List Rh}(h1:fi e=some (items,[],e1))(hc:vj cp nT e1=cs++t)(hl:cs.length=cp.length)(h3:gq g ft fe items (vj cp nT e1) []=some (out,cs++t')):cw cp nT fi g ft fe e=some (.l out,e1):=by
 have key:∀i x,e1[i]?=some (some (.l x))->∀k,o_ cp i=some k->(cs++t')[k]?=some (some (.l x)):=by
  intro i x hi k hk;obtain⟨s,hs⟩:=fM hk;have hk2:k<cp.length:=(Q8 hs).1;have:(vj cp nT e1)[k]?=some (some (.l x)):=by unfold vj;rw[TC (by simpa using hk2),RY,hs];simp[hi,KU]
  rw[hc,TC (by lia)]at this;rw[TC (by lia)];exact this
 unfold cw;rw[h1];simp only[RK,List.all_nil,if_true,h3];have hb:jN cp (cs++t') e1=true:=by unfold jN;rw[Sk];intro p hp;match hi:e1[p.1]? with|none=>simp[zJ]|some none=>simp[zJ]|some (some (.d x))=>simp[zJ]|some (some (.n x))=>simp[zJ]|some (some (.l x))=>cases hq:o_ cp p.1 with|none=>unfold o_ at hq;rw[VE]at hq;have:=hq p hp;simp at this|some k=>simp[key p.1 x hi k hq,zJ]
 rw[if_pos hb];congr 2;refine Uj λi=>?_;rw[b6];match hi:e1[i]? with|none=>rfl|some none=>rfl|some (some (.d x))=>rfl|some (some (.n x))=>rfl|some (some (.l x))=>cases hp:o_ cp i with|none=>simp[hp]|some k=>simp[hp,key i x hi k hp]
theorem qI{α:Type}{xs:List α}{i:Int}(h0:0<=i)(h1:i<xs.length):∃x∈xs,atI xs i=some x:=by rw[i9 h0 h1];exact⟨xs[i.toNat]'(by lia),VA _,SN _⟩
theorem nv{e:En}{xs:List Rh}{i:Int}:dI e (.l xs) (.d (.int i))=(atI xs i).map .d:=rfl
theorem gB{e:En}{xs:List Rh}{i:Int}:dI e (.d (.tuple xs)) (.d (.int i))=(atI xs i).map .d:=rfl
theorem jU{e:En}{xs:List Rh}{i:Int}:dI e (.d (.list xs)) (.d (.int i))=(atI xs i).map .d:=rfl
theorem ny{e:En}{j:Nat}{xs:List Rh}{i:Int}(h:e[j]?=some (some (.l xs))):dI e (.s j) (.d (.int i))=(atI xs i).map .d:=by simp[dI,e_,h,cG]
theorem jX{e:En}{xs:List Rh}:g1 iT e [.d (.tuple xs)]=some (.d (.int xs.length)):=rfl
theorem ic{e:En}{xs:List Rh}:g1 iT e [.d (.list xs)]=some (.d (.int xs.length)):=rfl
theorem jV{e:En}{xs:List Rh}:g1 iT e [.l xs]=some (.d (.int xs.length)):=rfl
theorem jW{e:En}{j:Nat}{xs:List Rh}(h:e[j]?=some (some (.l xs))):g1 iT e [.s j]=some (.d (.int xs.length)):=by simp[g1,iT,e_,h]
theorem eN{e:En}{j:Nat}{xs:List Rh}(h:e[j]?=some (some (.l xs))):g1 eL e [.s j]=some (.d (.tuple xs)):=by simp[g1,eL,e_,h]
theorem eM{e:En}{xs:List Rh}:g1 eL e [.l xs]=some (.d (.tuple xs)):=rfl
theorem dA{e:En}{xs:List Rh}:g1 eL e [.d (.list xs)]=some (.d (.tuple xs)):=rfl
theorem eO{e:En}{xs:List Rh}:g1 eL e [.d (.tuple xs)]=some (.d (.tuple xs)):=rfl
theorem nB{e:En}{xs:List Rh}{lo hi:Option Int}:HX e (.d (.tuple xs)) lo hi=some (.d (.tuple (cutD xs lo hi))):=rfl
theorem kS{e:En}{xs ys:List Rh}(h:xs.length+ys.length<=1000000):cP e (.d (.tuple xs)) (.d (.tuple ys))=some (.d (.tuple (xs++ys))):=by simp[cP,Ej,zE,gI,cG,qR,e_,h]
theorem HV{e:En}{i j:Int}(h:j≠0):bK e (.d (.int i)) (.d (.int j))=some (.d (.int (i.fmod j))):=by unfold bK;rw[oP (by simpa using h)]
theorem EG{e:En}{i j:Int}(h:j≠0)(h2:Bt 8000 j):iF e (.d (.int i)) (.d (.int j))=some (.d (.int (i.fdiv j))):=by unfold iF;rw[oP (by simp[mS.mpr h2,h])]
theorem nA{e:En}{i j:Int}(h:C4 i j=true):yy e (.d (.int i)) (.d (.int j))=some (.d (.int (i^j.toNat))):=by unfold yy;rw[oP h]
theorem nX:C4 10 18=true:=by decide
theorem lQ{f g:FS}{e e1:En}(h:f e=some (.nx e1)):aU f g e=g e1:=by unfold aU;rw[h];rfl
theorem LB{ft:FT}{f g:FS}{e e1:En}(h:ft e=some (true,e1)):jx ft f g e=f e1:=by unfold jx;rw[h];rfl
theorem LA{ft:FT}{f g:FS}{e e1:En}(h:ft e=some (false,e1)):jx ft f g e=g e1:=by unfold jx;rw[h];rfl
def G5(i:Nat)(e:En):Nat:=match e[i]? with|some (some (.l xs))=>xs.length|_=>0
def Cw(i:Nat)(e:En):Nat:=match e[i]? with|some (some (.d (.int k)))=>k.natAbs|_=>0
theorem zL{n m:Nat}(h:n<2^m)(hm:m<=4200):n<2^4200:=So h (UX (by decide) hm)
theorem jL{α:Type}{a:α}{r:List α}:atI (a::r) 0=some a:=by rw[i9 (by decide) (by simp)];rfl
theorem ed{α:Type}{a b:α}{r:List α}:atI (a::b::r) 1=some b:=by rw[i9 (by decide) (by simp;lia)];rfl
theorem i7{α:Type}{a b c:α}{r:List α}:atI (a::b::c::r) 2=some c:=by rw[i9 (by decide) (by simp;lia)];rfl
theorem i8{α:Type}{a b c d:α}{r:List α}:atI (a::b::c::d::r) 3=some d:=by rw[i9 (by decide) (by simp;lia)];rfl
theorem gf{W:aO}{k:Int}(h:iV W k):atI (W.ties.map ce) k=some (ce (W.tie k)):=by rw[i9 h.1 (by rw[RQ];exact h.2),RY,h.get];rfl
theorem wD{ns:List Int}{k:Int}(h0:0<=k)(h1:k<(ns.length:Int)):atI (ns.map PyData.int) k=some (.int (ns.getD k.toNat 0)):=by
 rw[i9 h0 (by rw[RQ];exact h1),RY];have:k.toNat<ns.length:=by lia
 simp[this]
theorem mY{a b c d:Rh}:cutD [a,b,c,d] none (some 2)=[a,b]:=rfl
theorem dw{a b c d:Rh}:cutD [a,b,c,d] (some 2) none=[c,d]:=rfl
theorem du{a b c:Rh}:cutD [a,b,c] (some 1) none=[b,c]:=rfl
theorem wK(ns:List Int):Tg (ns.map PyData.int)=true:=by induction ns with|nil=>rfl|cons n r ih=>simp[Tg,Sn,ih]
theorem wC{x:Int}:∀(ns:List Int),((ns.map PyData.int).any λy=>Th y (.int x))=ns.contains x|[]=>rfl|n::r=>by rw[Sb,VF,wC r,List.contains_cons];show(n==x||_)=_;rw[show(n==x)=(x==n) by rw[Vz];simp;exact eq_comm]
theorem dU{e:En}{x:Int}{ns:List Int}{neg:Bool}:yf neg e (.d (.int x)) (.d (.tuple (ns.map .int)))=some (.d (.bool (if neg then !ns.contains x else ns.contains x))):=by unfold yf;simp only[iX,e_,RK,wK,wC];simp[Sn,SF]
theorem hZ{e:En}{x a b:Int}{neg:Bool}:yf neg e (.d (.int x)) (.d (.tuple [.int a,.int b]))=some (.d (.bool (if neg then !(a==x||b==x) else(a==x||b==x)))):=by
 have h:=dU (e:=e) (x:=x) (ns:=[a,b]) (neg:=neg);simp only[Sb,Sy]at h;rw[h];have:[a,b].contains x=(a==x||b==x):=by simp only[List.contains_cons,List.contains_nil,Bool.or_false];rw[show(x==a)=(a==x) by rw[Vz];simp;exact eq_comm,show(x==b)=(b==x) by rw[Vz];simp;exact eq_comm]
 rw[this]
theorem jY{e:En}{ns:List Int}(h:ns.length<64):g1 fB e [.d (.tuple (ns.map .int))]=some (.l ((jF ns).map .int)):=by simp[g1,fB,e_,oV,h]
def ti(p:Int->Bool):Rh->Bool|.int k=>p k|_=>false
theorem pe{W:aO}{asked taken:List Int}:((bC 0 W.ties.length).filter (ti λk=>W.may asked taken k))=(W.can asked taken).map .int:=by
 unfold bC aO.can aO.rng;rw[VG,VG,TJ];have:(TM W.ties.length).filter ((ti λk=>W.may asked taken k)∘fun(i:Nat)=>PyData.int (0+(i:Int)))=(TM W.ties.length).filter ((λk=>W.may asked taken k)∘Int.ofNat):=by congr 1;funext i;simp[ti]
 rw[this];refine List.map_congr_left λi _=>?_;simp
theorem cB(W:aO):ag W=.tuple [.int W.things,.tuple (W.ties.map ce),.tuple (W.pat.map .int),.int W.asks]:=rfl
def Sh(n:Nat)(d:Rh):Prop:=d.canLay0=true/\d.depth<=n
theorem Sh.mono{n m:Nat}{d:Rh}(h:Sh n d)(l:n<=m):Sh m d:=⟨h.1,Sl h.2 l⟩
theorem Sh.ok{n:Nat}{d:Rh}(h:Sh n d)(l:n<=64):Sd d=true:=by unfold Sd;rw[h.1,decide_eq_true (Sl h.2 l)];rfl
theorem Sh.int{k:Int}:Sh 2 (.int k):=⟨by simp[Sn],by simp[SF]⟩
theorem Sh.bool{b:Bool}:Sh 2 (.bool b):=⟨by simp[Sn],by simp[SF]⟩
theorem Sh.all{n:Nat}:∀{ds:List Rh},(∀d∈ds,Sh n d)->Tg ds=true/\TH ds<=n|[],_=>⟨rfl,by simp[TH]⟩|d::r,h=>by obtain⟨a1,a2⟩:=h d (by simp);obtain⟨b1,b2⟩:=Sh.all (ds:=r) λx hx=>h x (by simp[hx]);exact⟨by simp[Tg,a1,b1],by simp only[TH];lia⟩
theorem Sh.tup{n:Nat}{ds:List Rh}(h:∀d∈ds,Sh n d):Sh (n+2) (.tuple ds):=by obtain⟨b1,b2⟩:=Sh.all h;exact⟨by simp[Sn,b1],by simp only[SF];lia⟩
theorem Sh.list{n:Nat}{ds:List Rh}(h:∀d∈ds,Sh n d):Sh (n+2) (.list ds):=by obtain⟨b1,b2⟩:=Sh.all h;exact⟨by simp[Sn,b1],by simp only[SF];lia⟩
theorem Sh.ints{ns:List Int}:Sh 4 (.tuple (ns.map .int)):=Sh.tup (n:=2) λd hd=>by obtain⟨k,_,rfl⟩:=Q_ hd;exact Sh.int
theorem Sh.tie{t:l6}:Sh 6 (ce t):=Sh.tup (n:=4) λd hd=>by
 simp only[Su,Ti,or_false]at hd;rcases hd with rfl|rfl|rfl|rfl;·exact Sh.int.mono (by decide)
 ·exact Sh.int.mono (by decide)
 ·exact Sh.ints (ns:=[t.top,t.bot])
 ·exact Sh.int.mono (by decide)
theorem xr:∀(n:Nat) (l:List Int),l.Nodup->(∀k∈l,0<=k/\k<(n:Int))->l.length<=n
 |0,l,_,h=>by cases l with|nil=>simp|cons a r=>have:=h a (by simp);lia
 |n+1,l,hd,h=>by
  have ih:=xr n (l.erase (n:Int)) (hd.erase _) λk hk=>by obtain⟨h1,h2⟩:=hd.mem_erase_iff.mp hk;have:=h k h2;lia
  by_cases c:(n:Int)∈l;·rw[List.length_erase_of_mem c]at ih;lia
  ·rw[List.erase_of_not_mem c]at ih;lia
abbrev Std:=List Int×List Int
structure i6 (W:aO) (s:Std):Prop where
 inw:∀k∈s.1,iV W k
 nd:s.1.Nodup
 tk:s.2.length<=2*s.1.length
 th:∀t∈s.2,0<=t/\t<W.things
def nxt(W:aO)(s:Std)(k:Int)(b:Bool):Std:=(aO.askd s.1 k,W.took s.2 k b)
theorem i6.len{W:aO}{s:Std}(h:i6 W s):s.1.length<=W.ties.length:=xr _ _ h.nd λk hk=>h.inw k hk
theorem i6.first(W:aO):i6 W ([],[]):=⟨λk h=>(by cases h),List.nodup_nil,RL _,λk h=>(by cases h)⟩
theorem qH{a:List Int}{k:Int}:(aO.askd a k).length=a.length+1:=by unfold aO.askd;rw[uA];simp
theorem i6.nxt{W:aO}{s:Std}{k:Int}(b:Bool)(ok:W.Ok)(h:i6 W s)(hk:iV W k)(hn:k∉s.1):i6 W (nxt W s k b):=by
 refine⟨λj hj=>?_,?_,?_,?_⟩
 ·have:=uB.mp hj;rcases Q9 this with z|z;·exact h.inw j z
  ·simp at z;rw[z];exact hk
 ·refine(mH _).nodup_iff.mpr ?_;rw[List.nodup_append];refine⟨h.nd,by simp,λa ha b hb=>?_⟩;simp at hb;rintro rfl;exact hn (hb▸ha)
 ·have:=h.tk;show(W.took s.2 k b).length<=2*(aO.askd s.1 k).length;rw[qH];unfold aO.took;split;·rw[uA];simp;lia
  ·lia
 ·intro t ht;have o:=hk.ok ok;have:=o.o0;have:=o.o1;have:=o.o2;change t∈W.took s.2 k b at ht;unfold aO.took at ht;split at ht
  ·rcases Q9 (uB.mp ht) with z|z;·exact h.th t z
   ·simp at z;rcases z with rfl|rfl<;>lia
  ·exact h.th t ht
structure Nd where
 tie:Int
 yes:Int
 no:Int
def Hz(W:aO)(n:Nat)(S:Nat->Std)(i:Nat)(k:Int)(b:Bool)(l:Int):Prop:=l=-1\/(0<=l/\l<(n:Int)/\S l.toNat=nxt W (S i) k b)
structure Mt (W:aO) (n:Nat) (S:Nat->Std) (i:Nat) (x:Nd):Prop where
 tie:iV W x.tie
 st:i6 W (S i)may:W.may (S i).1 (S i).2 x.tie=true
 yes:Hz W n S i x.tie true x.yes
 no:Hz W n S i x.tie false x.no
def MA(W:aO)(T:List Nd)(S:Nat->Std):Prop:=∀(i:Nat) (x:Nd),T[i]?=some x->Mt W T.length S i x
structure Wt where
 st:Std
 par:Int
 side:Int
structure NL (W:aO) (T:List Nd) (S:Nat->Std) (ws:List Wt):Prop where
 tr:MA W T S
 wt:∀w∈ws,i6 W w.st/\(w.par=-1\/∃(p:Nat) (x:Nd),w.par=(p:Int)/\T[p]?=some x/\((w.side=0/\w.st=L2.nxt W (S p) x.tie true)\/(w.side=1/\w.st=L2.nxt W (S p) x.tie false)))side:∀w∈ws,w.side=0\/w.side=1
theorem DF{W:List Nat}{fi:FI}{g:FG}{f:FS}{e e1:En}{items:List Rh}{own:jJ}(h:fi e=some (items,own,e1))(ho:(own.all λq=>!W.contains q.1)=true):jd W fi g f e=lU own g f items e1:=by unfold jd;rw[h];simp only[RK,ho,if_true]
def nm(nums:List Int)(l:Int):Int:=(atI nums l).getD (-1)
structure Nk (order:List Int) (n:Nat) (nums:List Int):Prop where
 len:nums.length=n+1
 top:nums[n]?=some (-1)at':∀(j:Nat) (v:Int),j<n->nums[j]?=some v->v=-1\/∃p:Nat,v=(p:Int)/\order[p]?=some (j:Int)
def Cy(T:List Nd)(w:Int):Nd:=T.getD w.toNat ⟨0,0,0⟩
structure NU (S:Nat->Std) (n:Nat) (ss:List Std):Prop where
 len:ss.length=n
 at':∀(j:Nat) (s:Std),ss[j]?=some s->s.1.length<=(S j).1.length/\s.2.length<=2*s.1.length/\(∀k∈s.1,0<=k/\k<16)/\∀t∈s.2,0<=t/\t<12
theorem ax(s:String):RZ (Rm s)=true:=by rw[Str.ofString_eq_toList];unfold RZ;simp only[RV,RQ];rw[show(UC Char.toNat s.toList).toArray.all (λa=>decide (a<1114112)) 0 s.toList.length=(UC Char.toNat s.toList).all (λa=>decide (a<1114112)) by simp];rw[List.all_map,Sk];intro c _;show decide (c.toNat<1114112)=true;rw[decide_eq_true_eq];have:=c.valid;unfold UInt32.isValidChar Nat.isValidChar at this;show c.val.toNat<_;lia
theorem iB{a b:Str}(h1:RZ a=true)(h2:RZ b=true):RZ (a++b)=true:=by unfold RZ at*;rw[show(a++b).cps=a.cps++b.cps from rfl];simp only[Array.all_append,h1,h2,Bool.and_self]
theorem sv{sep:Str}(h:RZ sep=true):∀(ts:List Str),(∀t∈ts,RZ t=true)->RZ (Ss sep ts)=true|[],_=>by show RZ TV=true;simp[RZ,TV]|[x],hx=>hx x (by simp)|x::y::r,hx=>iB (iB (hx x (by simp)) h) (sv h (y::r) λt ht=>hx t (by simp at ht⊢;exact .inr ht))
structure Sz (n dep:Nat) (d:Rh):Prop where
 fl:gy d=true
 sh:d.showable=true
 dp:d.depth<=dep
 ln:d.shown.length<=n
 so:RZ d.shown=true
theorem hJ{e:En}{s:Str}(h:RZ s=true):bc false e (.d (.str s)) (.d (.str s))=some (.d (.bool true)):=by simp[bc,iX,Sd,Sn,SF,Th,h]
def dR(p:Int×Bool):Rh:=.tuple [.int p.1,.bool p.2]
def rn(T:List Nd)(ans:List Bool):Nat->Int->List (Int×Bool)|0,_=>[]|f+1,at'=>if at'<0 then[]else((Cy T at').tie,ans.getD (Cy T at').tie.toNat false)::rn T ans f (if ans.getD (Cy T at').tie.toNat false=true then(Cy T at').yes else(Cy T at').no)
def rt(T:List Nd):Int:=if T.length=0 then-1 else 0
structure Nn (W:aO) (T:List Nd) (S:Nat->Std) (ans:List Bool) (r:List (Int×Bool)) (a:Int):Prop where
 at':a=-1\/(0<=a/\a<(T.length:Int)/\r.length<=(S a.toNat).1.length)eq:r++rn T ans (17-r.length) a=rn T ans 17 (rt T)len:r.length<=16
 inw:∀p∈r,iV W p.1
abbrev Fr:=Int×Int
def tm(a b:Fr):Fr:=gM (a.1*b.1) (a.2*b.2)
def pl(a b:Fr):Fr:=gM (a.1*b.2+b.1*a.2) (a.2*b.2)
structure kr (M:Int) (f:Fr):Prop where
 pos:0<f.2
 lo:0<=f.1
 hi:f.1<=f.2
 dv:f.2∣M
structure J_ (M i:Int) (f:Fr):Prop where
 pos:0<f.2
 lo:0<=f.1
 hi:f.1<=i*f.2
 dv:f.2∣M
def bp(W:aO):List Int->Int|[]=>1|k::r=>(W.tie k).bot*bp W r
def Ks(W:aO):Int:=bp W W.rng
def ch(W:aO)(k:Int)(b:Bool):Fr:=if b then((W.tie k).top,(W.tie k).bot) else((W.tie k).bot-(W.tie k).top,(W.tie k).bot)
structure NT (W:aO) (S:Nat->Std) (n:Nat) (rs:List Fr):Prop where
 len:rs.length=n
 at':∀(j:Nat) (f:Fr),rs[j]?=some f->kr (bp W (S j).1) f
structure NM (W:aO) (i:Nat) (ss:List Fr):Prop where
 len:ss.length=W.ties.length
 at':∀(j:Nat) (f:Fr),ss[j]?=some f->J_ (Ks W) (i:Int) f
def J5(sc:RU)(x:Str):Bool:=match sc.names.lookup x with|some .local=>true|some .cell=>true|some .free=>true|_=>false
theorem GF{sc:RU}{x:Str}(h:J5 sc x=true):Km sc x:=by
 unfold J5 at h;unfold Km;split at h;·rename_i e;exact .inl e
 ·rename_i e;exact .inr (.inl e)
 ·rename_i e;exact .inr (.inr e)
 ·cases h
section
variable{X:Cx}{K:Rj}
theorem qw(i:Nat){x:Str}{pos:Pos}(hN:X.N[i]?=some x)(hv:J5 X.env.scope x=true)(hd:((x==("__debug__":Str))||(x==("__classdict__":Str)))=false):PE X (.Name x pos) (fE K (ab i)):=qv i hN (GF hv) (Bool.or_eq_false_iff.mp hd).1 (Bool.or_eq_false_iff.mp hd).2
end
section
variable{X:Cx}{tg a b c:Rl}{ta:TA}{p pos p2 pos2:Pos}
end
section
variable{K:Rj}{σ:L2.St}
end
section
variable{X:Cx}{K:Rj}{tg a b c:Rl}{fs:FA}{pos p p2 pos2:Pos}
end
section
variable(P:Rw)(w:Ro)
end
section
variable{P:Rw}{w:Ro}{H H':Hp}{h h':Ru}{a:xM}{o:HO}
end
section
variable{P:Rw}{w:Ro}{H:Hp}{h h':Ru}{x e:xM}{o':HO}
end
section
variable{fs fs' ex ex':List xM}{H H1 H2:Hp}{h h1 h2 h':Ru}{a x e:xM}{o:HO}
end
section
variable{X:Cx}{pins:List (xM×Obj)}{σ:List (Option V)}{H H':Hp}{s:Rg}{h':Ru}
end
section
variable{X:Cx}
variable{a b:Rl}{ta tb:TE}{pos:Pos}
variable{tA tB':TT}{aB:List Rl}
end
section
variable{X:Cx}{pins:List (xM×Obj)}{σ:St}{H:Hp}{s:Rg}{a:xM}{xs ys:List V}
end
section
variable{X:Cx}{pins:List (xM×Obj)}{σ:St}{H:Hp}{s:Rg}{E:Oq->Rg->Prop}
end
section
variable{X:Cx}{st:Rx}{aB:List Rx}{t u:TS}{e:Rl}{te:TE}{pos:Pos}
end
section
variable{X:Cx}{pos:Pos}
end
section
variable{X:Cx}{pos:Pos}
end
section
variable{X:Cx}{tg:Rl}
end
section
variable{X:Cx}{a b c:Rl}{ta tb tc:TE}{pos:Pos}
end
section
variable{X:Cx}{a b c:Rl}{ta tb tc:TE}{pos:Pos}
end
section
variable{prog:Rw}{w:Ro}{A:Rz}{E:Oq->Rg->Prop}{s:Rg}{K:Rj}{x dx C f:xM}{mA:Str->Option Oq}{name:Str}{v:Oq}
end
section
variable{P:Rw}{w:Ro}{H H':Hp}{h h':Ru}{a C dx:xM}{fs fs':List (Str×V)}
end
section
variable{X:Cx}{pins:List (xM×Obj)}{σ:St}{H:Hp}{s:Rg}{a C dx:xM}{fs:List (Str×V)}{f:Str}{v:V}{A:Rz}{E:Oq->Rg->Prop}
end
section
variable{X:Cx}{o e value:Rl}{f:Str}{pos pos' tpos:Pos}{ta tv:TE}
end
section
variable{X:Cx}{pins:List (xM×Obj)}{σ:St}{H:Hp}{s:Rg}{A:Rz}{E:Oq->Rg->Prop}{Q:Oq->Rg->Prop}{c:Oq}{b:Bool}
end
section
variable{X:Cx}{e:Rl}{es:List Rl}{te:TE}{t:TA}{pos:Pos}
end
section
variable{X:Cx}{pins:List (xM×Obj)}{σ:St}{H:Hp}{s s':Rg}
end
section
variable{X:Cx}{CX:wA}{k:Nat}{f C:xM}{fd:RD}{ps:List Str}{sp:Sp}{dvs:List V}{ds:List Oq}{E:XK}{x m:Str}{p pos apos:Pos}{e o:Rl}{es:List Rl}{ta:TE}{t:TA}
end
section
variable{X:Cx}{CX:wA}{k:Nat}{f C:xM}{fd:RD}{ps ks:List Str}{sp:Sp}{E:XK}{x m:Str}{p pos apos kpos:Pos}{e o:Rl}{es:List Rl}{kws:List SL}{te ta:TE}{t tk:TA}{nm:Option Str}
variable{g:List Oq->List Oq->List Oq}{gV:List V->List V->List V}
end
section
variable{X:Cx}{x:Str}{p pos:Pos}{e:Rl}{es:List Rl}{t:TA}{id T:String}{r:List V->Hp->VK->Prop}
end
section
variable{κ:Type}[DecidableEq κ]
def Lg(kvs:List (κ×V))(k:κ)(v:V):List (κ×V):=if (kvs.any λkv=>decide (kv.1=k))=true then kvs.map (λkv=>if kv.1=k then(kv.1,v) else kv) else kvs++[(k,v)]
end
section
variable{P:Rw}{w:Ro}{H:Hp}{h:Ru}{a:xM}
end
section
variable{X:Cx}{pins:List (xM×Obj)}{σ:St}{H:Hp}{s:Rg}{a:xM}{y v:V}{u r:Oq}{o:Option V}{A:Rz}{E:Oq->Rg->Prop}
end
section
variable{X:Cx}{pins:List (xM×Obj)}{σ:St}{H:Hp}{s:Rg}{a:xM}{kvs:List (ko×V)}{k:ko}{u:Oq}{A:Rz}{E:Oq->Rg->Prop}
end
def Mu(i:Rl):Prop:=∀ov iv,subscripted i false ov iv=operate [ov,iv] (getItem ov iv)
theorem Gm{prog:Rw}{w:Ro}{A:Rz}{E:Oq->Rg->Prop}{s:Rg}{env:Env}{value slice:Rl}{pos:Pos}{T id:String}{Q:Oq->Rg->Prop}(hl:typeLookup (.type T) "__getitem__"=pure (some (.builtin id)))(hs:Mu slice)(h:Rr (Ry prog w) A (RC value env) (λo s₁=>Rr (Ry prog w) A (RC slice env) (λi s₂=>s₂.TypeIs o T/\Rr (Ry prog w) A (getItem o i) Q E s₂) E s₁) E s):Rr (Ry prog w) A (RC (.Subscript value slice pos) env) Q E s:=by
 refine Subscript_ (Ta h (λo s₁ h₁=>Ta h₁ (λi s₂ h₂=>?_) λ_ _ x=>x) λ_ _ x=>x);obtain⟨hT,h₂⟩:=h₂;unfold subscriptTail;refine Rq ?_;rw[getitemInPython_of_ne hT.not_modules];refine Rq (wpAny_specialOf hT hl ?_);have fin:Rr (Ry prog w) A (subscripted slice false o i) (λr s₃=>Rr (Ry prog w) A (letTemporaryGo value o r>>=λ_=>pure r) Q E s₃) E s₂:=by rw[hs o i];exact wpAny_operating (Ta h₂ (λr s₃ h₃=>Rq (wpAny_letTemporaryGo (RG h₃))) λ_ _ x=>x)
 first|exact RG (Rq fin)|exact Rq (RG (Rq fin))|exact Rq fin
section
variable{X:Cx}{o i e value:Rl}{pos pos' tpos:Pos}{td ty tv:TE}
end
section
variable{X:Cx}{pos:Pos}
end
section
variable{X:Cx}{pins:List (xM×Obj)}{σ:St}{H:Hp}{s:Rg}{a:xM}{y d:V}{u r:Oq}{o:Option V}{A:Rz}{E:Oq->Rg->Prop}
end
section
variable{X:Cx}{o e f:Rl}{apos cpos:Pos}{td ty tx:TE}
end
section
variable{X:Cx}{pins:List (xM×Obj)}{σ:St}{H:Hp}{s:Rg}{a:xM}{kvs:List (ko×V)}{A:Rz}{E:Oq->Rg->Prop}
end
section
variable{X:Cx}{pins:List (xM×Obj)}{σ:St}{H:Hp}{s:Rg}{a:xM}{y:V}{u:Oq}{A:Rz}{E:Oq->Rg->Prop}
end
end L2
namespace Att
open PySem PySem.W PySem.Calls PyProof.Rows
section
variable{prog:Rw}{w:Ro}{A:Rz}{E:Oq->Rg->Prop}{s:Rg}{K:Frag}
end
end Att
namespace L2
open PySem PySem.Spec PyProof.Rows
section
variable{P:Rw}{w:Ro}{K:Rj}{mg:Str->Option Oq}{base:Ru}
end
section
variable{X:Cx}
end
section
variable{κ:Type}[DecidableEq κ]
end
def LX:Rh->String|.none=>"NoneType"|.bool _=>"bool"|.int _=>"int"|.str _=>"str"|.tuple _=>"tuple"|.list _=>"list"|.dict _=>"dict"
def JV(t T:String):Bool:=t==T||(t=="bool"&&T=="int")
def KJ(T:String)(d:Rh):Bool:=JV (LX d) T
def AG(T:String):En->Rv->Option Rv:=λ_ r=>match r with|.d x=>some (.d (.bool (KJ T x)))|_=>some (.d (.bool (KJ T (.list []))))
section
variable{X:Cx}{K:Rj}{a:Rl}{fa:FE}{pos p p2:Pos}
def MB(K:Rj)(H:Hp):V->String->Prop|.non,t=>t="NoneType"|.bl _,t=>t="bool"|.int _,t=>t="int"|.str _,t=>t="str"|.ref a,t=>(t="tuple"/\∃xs,ff K H a xs)\/(t="list"/\∃xs,fX K H a xs)\/(t="dict"/\∃m,H a=some (.dK m))|_,_=>False
theorem BH{T:String}:dN X (.builtin "isinstance") (λxs H Q=>∃x t b,xs=[x,.ty T]/\MB X.K H x t/\PySem.W.kitOne X.K (.type t) (.type T)=some b/\Q (.bl b) H):=by
 intro pins s σ H xs us Q I r h;obtain⟨x,t,b,rfl,ht,hk,q⟩:=h;obtain⟨u1,u2,rfl,r1,r2⟩:∃u1 u2,us=[u1,u2]/\bW x u1/\bW (.ty T) u2:=by cases r with|cons p q=>cases q with|cons p' q'=>cases q';exact⟨_,_,rfl,p,p'⟩
 cases r2;have q':∀tk,EP X pins σ Q (.bool b) {s with toks:=tk}:=λtk=>⟨.bl b,H,I.tok _,rfl,q⟩;cases x with|non=>cases (show u1=Value.none from r1);cases (show t=_ from ht);exact UD PySem.W.kitx_none I.kIn UH hk (λz=>nomatch z) q'|bl y=>cases (show u1=Value.bool y from r1);cases (show t=_ from ht);exact UD PySem.W.kitx_bool I.kIn UH hk (λz=>nomatch z) q'|int i=>obtain⟨tt,rfl⟩:=r1;cases (show t=_ from ht);exact UD PySem.W.kitx_int I.kIn UH hk (λz=>nomatch z) q'|str y=>obtain⟨tt,rfl⟩:=r1;cases (show t=_ from ht);exact UD PySem.W.kitx_str I.kIn UH hk (λz=>nomatch z) q'|ref a=>
  cases (show u1=Value.ref a from r1);rcases ht with⟨rfl,xs,hs⟩|⟨rfl,xs,hs⟩|⟨rfl,m,hs⟩;·obtain⟨its,rv,pl,hz⟩:=I.tuple hs;obtain⟨o,h1,h2⟩:=pl.typeIs;exact UD PySem.W.kitx_tuple I.kIn ⟨o,h1,h2⟩ hk (λz=>nomatch z) q'
  ·obtain⟨its,rv,pl,hz⟩:=I.list hs;obtain⟨o,h1,h2⟩:=pl.isList.typeIs;exact UD PySem.W.kitx_list I.kIn ⟨o,h1,h2⟩ hk (λz=>nomatch z) q'
  ·obtain⟨_,_,vs,_,pp⟩:=(show gQ X.prog X.w H s.heap a (.dK m) from I.hok a _ hs);obtain⟨o,es,ep,h1,h2,_⟩:=pp;exact UD PySem.W.kitx_dict I.kIn ⟨o,h1,h2.1⟩ hk (λz=>nomatch z) q'|_=>exact Tc ht
theorem CY{x:Str}{T:String}(hg:Gl X x)(hm:X.mg x=none)(hv:Tn x=some (.type T))(hn:x≠"__name__")(hd:(x==("__debug__":Str))=false):PE X (.Name x pos) (tC (.ty T)):=λpins s σ H Q I h=>rd I hg hm hv ⟨.ty T,H,I,rfl,h⟩ hn hd
theorem Iw{t T:String}(ht:t∈["NoneType","bool","int","str","tuple","list","dict"])(hT:T∈["int","bool","tuple","str"]):PySem.W.kitOne K (.type t) (.type T)=some (JV t T):=by simp only[Su,Ti,or_false]at ht hT;rcases ht with rfl|rfl|rfl|rfl|rfl|rfl|rfl<;>rcases hT with rfl|rfl|rfl|rfl<;>rfl
theorem Gz(d:Rh):LX d∈["NoneType","bool","int","str","tuple","list","dict"]:=by cases d<;>simp[LX]
theorem J1{F H:Hp}{d:Rh}{v:V}(h:DA K F d v)(s:ao F H):MB K H v (LX d):=by have h:=DA.mono s h;cases d with|none=>rw[fZ.mp h];rfl|bool b=>rw[cS.mp h];rfl|int b=>rw[cq.mp h];rfl|str b=>rw[jQ.mp h];rfl|tuple ds=>obtain⟨a,xs,rfl,h1,_⟩:=cO.mp h;exact .inl ⟨rfl,xs,h1⟩|list ds=>obtain⟨a,xs,rfl,h1,_⟩:=eC.mp h;exact .inr (.inl ⟨rfl,xs,h1⟩)|dict m=>simp only[DA]at h;obtain⟨a,m,rfl,h1,_⟩:=h;exact .inr (.inr ⟨rfl,_,h1⟩)
theorem ED{f:FE}{σ:L2.St}{H:Hp}{Q Q':VK}(h:fE K f σ H Q)(m:∀v H1,Q v H1->Q' v H1):fE K f σ H Q':=by obtain⟨F,e,r,e',R,hf,q⟩:=h;exact⟨F,e,r,e',R,hf,λF' H' v x R' A=>m _ _ (q F' H' v x R' A)⟩
theorem KL{T:String}:Ka K (λv H Q=>∃t,t∈["NoneType","bool","int","str","tuple","list","dict"]/\MB K H v t/\Q (.bl (JV t T)) H) (AG T):=by intro σ H0 F H e x z v Q R A hg q;unfold AG at hg;cases x with|d d=>cases hg;exact⟨LX d,Gz d,J1 A R.sm,q F H _ (dX.refl _ _ _ _) R eU⟩|l xs=>cases hg;obtain⟨l,vs,rfl,h1,h2,h3,h4⟩:=A;exact⟨"list",by simp,.inr (.inl ⟨rfl,vs,fX.of h3⟩),q F H _ (dX.refl _ _ _ _) R eU⟩|s i=>cases hg;obtain⟨h1,xs,h2⟩:=A;obtain⟨l,vs,h3,h4,h5,h6⟩:=R.own i xs h2;rw[h1]at h3;cases h3;exact⟨"list",by simp,.inr (.inl ⟨rfl,vs,fX.of h5⟩),q F H _ (dX.refl _ _ _ _) R eU⟩
theorem G'{x:Str}{T:String}(hK:X.K=K)(hT:T∈["int","bool","tuple","str"])(hg:Gl X "isinstance")(hm:X.mg "isinstance"=none)(hgT:Gl X x)(hmT:X.mg x=none)(Nr:Tn x=some (.type T))(hn:x≠"__name__")(hd:(x==("__debug__":Str))=false)(ha:PE X a (fE K fa))(he:RB [a,.Name x p2] X.env=(false,RC a X.env)::RB [.Name x p2] X.env)(hpl:(RP pos (RB [.Name x p2] X.env)).any (·.1)=false):PE X (.Call (.Name "isinstance" p) [a,.Name x p2] [] pos) (fE K (ww (AG T) fa)):=(rF (BH (T:=T)) hg hm boot_isinstance (nU ha (nU (CY hgT hmT Nr hn hd) fL) he) (by decide) (by decide) he hpl).mono λσ H Q h=>by subst hK;have h1:=Eb (KL (T:=T)) h;refine ED h1 λv H1⟨t,ht,k,q⟩=>?_;exact⟨v,t,_,rfl,k,Iw ht hT,q⟩
end
section
variable{X:Cx}{K:Rj}
end
section
variable{X:Cx}{K:Rj}{σ:L2.St}{F H:Hp}{e:En}{pos p1 p2:Pos}
end
section
variable{X:Cx}{K:Rj}{a b c d:Rl}{ta tb tc td:TE}{fa fb fc fd:FE}{pos:Pos}
end
section
variable{X:Cx}{K:Rj}{a b:Rl}{es:List Rl}{fa fb:FE}{fs:FA}{pos p apos:Pos}
def bN:Rv->Option Str|.d (.str x)=>some x|_=>none
theorem dW{σ:L2.St}{H0 F H:Hp}{e:En}{r:Rv}{v:V}{x:Str}(h:cF K σ H0 F H e r v)(q:bN r=some x):v=.str x:=by
 unfold bN at q;split at q;·cases q;exact jQ.mp (show DA K F (.str _) v from h)
 ·cases q
theorem pj{σ:L2.St}{H0 F H:Hp}{e:En}{x:Str}:cF K σ H0 F H e (.d (.str x)) (.str x):=(show DA K F (.str x) (.str x) from jQ.mpr rfl)
def jl:En->Rv->Rv->Option Rv:=λ_ x y=>(bN x).bind λi=>(bN y).bind λj=>if i.length+j.length<=1000000 then some (.d (.str (i++j))) else none
def Hh:R2:=λx y H Q=>∃i j,x=.str i/\y=.str j/\i.length+j.length<=RH/\Q (.str (i++j)) H
theorem Fj:iW X (Sx .Add) Hh:=by intro pins s σ H x y v u Q I rx ry h;obtain⟨i,j,rfl,rfl,hl,q⟩:=h;obtain⟨t,rfl⟩:=rx;obtain⟨t',rfl⟩:=ry;exact PyProof.Rows.add_str (λt' tk=>⟨.str (i++j),H,I.tok _,⟨_,rfl⟩,q⟩) hl
theorem HE:iR K Hh jl:=by
 intro σ H0 F H e x y z v u Q R A B hg q;unfold jl at hg;obtain⟨i,h1,hg⟩:=Q6 hg;obtain⟨j,h2,hg⟩:=Q6 hg;split at hg;case isFalse=>cases hg
 case isTrue hl=>cases hg;exact⟨i,j,dW A h1,dW B h2,by rw[SK];lia,q F H _ (dX.refl _ _ _ _) R pj⟩
theorem vU(ha:PE X a (fE K fa))(hb:PE X b (fE K fb)):PE X (.BinOp a .Add b pos) (fE K (aA jl fa fb)):=rL Fj HE ha hb
def iU:En->Rv->Option Rv:=λ_ x=>match x with|.d (.int i)=>if i.natAbs.log2<1900 then some (.d (.str (toString i:String))) else none|.d (.str x)=>some (.d (.str x))|_=>none
def Dx:V->Hp->VK->Prop:=λv H Q=>(∃i:Int,v=.int i/\i.natAbs.log2<1900/\Q (.str (toString i:String)) H)\/∃x,v=.str x/\Q (.str x) H
theorem Az:dN X (.type "str") (λxs H Q=>∃v,xs=[v]/\Dx v H Q):=by
 intro pins s σ H xs us Q I r h;obtain⟨v,rfl,h⟩:=h;obtain⟨u,rfl,ru⟩:=j6 r;rcases h with⟨i,rfl,hi,q⟩|⟨x,rfl,q⟩;·obtain⟨t,rfl⟩:=ru;exact PySem.P.str_of_int (by lia) ⟨.str _,H,I.tok _,⟨_,rfl⟩,q⟩
 ·obtain⟨t,rfl⟩:=ru;exact PySem.P.str_of_str ⟨.str _,H,I,⟨_,rfl⟩,q⟩
theorem JU:Ka K Dx iU:=by
 intro σ H0 F H e x z v Q R A hg q;unfold iU at hg;split at hg
 ·split at hg;case isFalse=>cases hg
  case isTrue hi=>cases hg;exact .inl ⟨_,cq.mp (show DA K F (.int _) v from A),hi,q F H _ (dX.refl _ _ _ _) R pj⟩
 ·cases hg;exact .inr ⟨_,jQ.mp (show DA K F (.str _) v from A),q F H _ (dX.refl _ _ _ _) R pj⟩
 ·cases hg
theorem JT:dH K (λxs H Q=>∃v,xs=[v]/\Dx v H Q) (g1 iU):=fY λσ H0 F H e x z v Q R A hg q=>⟨v,rfl,JU σ H0 F H e x z v Q R A hg q⟩
theorem b_str:mi X K "str" (g1 iU):=⟨.inr ⟨_,_,Az,JT,Wf⟩⟩
def xW:List Rh->Option (List Str)|[]=>some []|.str x::r=>(xW r).map (x::·)|_::_=>none
theorem xX:∀{ds:List Rh}{ys:List Str},xW ds=some ys->ds=ys.map .str|[],_,h=>by cases h;rfl|.str x::r,ys,h=>by obtain⟨zs,h1,rfl⟩:=Q7 h;rw[xX h1];rfl|.none::_,_,h=>by cases h|.bool _::_,_,h=>by cases h|.int _::_,_,h=>by cases h|.tuple _::_,_,h=>by cases h|.list _::_,_,h=>by cases h|.dict _::_,_,h=>by cases h
theorem wU{F:Hp}:∀{ys:List Str}{xs:List V},aT K F (ys.map .str) xs->xs=ys.map V.str|[],_,h=>by simpa[aT]using h|y::ys,_,h=>by simp only[Sb,aT,DA]at h;obtain⟨x,r,e,rfl,q⟩:=h;rw[e,wU q];rfl
def pN:En->Rv->Rv->Option Rv:=λe x y=>(bN x).bind λsep=>(e_ e y).bind λp=>(xW p.2).bind λys=>if sep.length<=16/\(ys.map (·.length)).sum+ys.length<=1048576 then some (.d (.str (Txt.join sep ys))) else none
def Hj(K:Rj):V->List V->Hp->VK->Prop:=λx vs H Q=>∃sep l ys,x=.str sep/\vs=[.ref l]/\(fX K H l (ys.map V.str)\/ff K H l (ys.map V.str))/\sep.length<=16/\(ys.map (·.length)).sum+ys.length<=1048576/\Q (.str (Txt.join sep ys)) H
theorem mI:∀{ys:List Str}{us:List Oq},aW (ys.map V.str) us->StrsAre us ys|[],_,h=>by cases h;exact .nil|y::ys,_,h=>by cases h with|cons p q=>obtain⟨t,rfl⟩:=p;exact .cons _ _ (mI q)
theorem E6:HA X "str.join" (Hj X.K):=by
 intro pins s σ H x vs v us Q I rx rv h;obtain⟨sep,l,ys,rfl,rfl,hs,h1,h2,q⟩:=h;obtain⟨t,rfl⟩:=rx;obtain⟨u,rfl,ru⟩:=j6 rv;cases ru;have q':∀t' k,EP X pins σ Q (.str (Txt.join sep ys) t') {s with toks:=k}:=λt' k=>⟨.str _,H,I.tok _,⟨_,rfl⟩,q⟩;rcases hs with hs|hs;·obtain⟨its,r,pl,hz⟩:=I.list hs;exact join_listW pl.isList (mI r) h1 h2 q'
 ·obtain⟨its,r,pl,hz⟩:=I.tuple hs;exact join_tupleW pl (mI r) h1 h2 q'
theorem Ih:iR K (λv u H Q=>Hj K v [u] H Q) pN:=by
 intro σ H0 F H e x y z v u Q R A B hg q;unfold pN at hg;obtain⟨sep,h1,hg⟩:=Q6 hg;obtain⟨⟨k,ds⟩,h2,hg⟩:=Q6 hg;obtain⟨ys,h3,hg⟩:=Q6 hg;split at hg;case isFalse=>cases hg
 case isTrue hl=>cases hg;obtain⟨l,ws,rfl,d1,s1⟩:=dF R B h2;have e1:=xX h3;subst e1;have e2:=wU d1;subst e2;refine⟨sep,l,ys,dW A h1,rfl,?_,hl.1,hl.2,q F H _ (dX.refl _ _ _ _) R pj⟩;cases k with|true=>exact .inl s1|false=>exact .inr s1
theorem Dd{x:Str}{j:Nat}{p0:Pos}(hK:X.K=K)(ha:PE X a (fE K fa))(hs:RB [a] X.env=(false,RC a X.env)::RB [] X.env)(hbase:SU (.Constant (.str x) j p0) "join" X.env (RC (.Constant (.str x) j p0) X.env)=RC (.Constant (.str x) j p0) X.env)(hfew:((RP pos (RB [a] X.env)).all (λx=>!x.1)&&(Tz pos (TB [] X.env)).all (λx=>x.1.isSome)&&decide (([a]:List Rl).length+([]:List SL).length+(if ([]:List SL).isEmpty then 0 else 1)<30))=true)(hline:(apos.endLine==pos.line)=true)(hplain:(RP pos (RB [] X.env)).any (·.1)=false):PE X (.Call (.Attribute (.Constant (.str x) j p0) "join" apos) [a] [] pos) (fE K (aA pN (vC (.str x)) fa)):=(CQ Wg PySem.F.slot_str_join PySem.F.type_str_join E6 (@yQ X x j p0) (nU ha fL hs) hbase hfew hline hs hplain).mono λσ H Q h=>by subst hK;have h1:=sM Ih h;obtain⟨F,e,r,e',R,hf,q⟩:=h1;cases hf;exact⟨rfl,q F H _ (dX.refl _ _ _ _) R pj⟩
theorem rf(x y:Str):(x++y).length=x.length+y.length:=strLen_append x y
end
section
variable{X:Cx}{K:Rj}{a b:Rl}{fa fb:FE}{fs:FA}{pos p p2 p3:Pos}
end
def bq(W:aO)(as:List Int):Int:=bp W (W.rng.filter λk=>!as.contains k)
def wI(l:Nat):Int:=1000*(2^(16-l)-1)
theorem L0{l:Nat}:0<=wI l/\wI l<=65536000:=by
 unfold wI;have h1:(2:Nat)^(16-l)<=2^16:=UX (by decide) (by lia);have h2:1<=(2:Nat)^(16-l):=Nat.one_le_two_pow;have e:((2:Int)^(16-l))=((2^(16-l):Nat):Int):=by simp
 rw[e];lia
structure NG (W:aO) (k:Int) (as:List Int) (y n:Fr):Prop where
 y:J_ (bq W (aO.askd as k)) (wI (as.length+1)) y
 n:J_ (bq W (aO.askd as k)) (wI (as.length+1)) n
 len:as.length<=15
 inw:iV W k
 new:k∉as
def lk(ws:List Fr)(l:Int):Fr:=if l=-1 then(0,1) else ws.getD l.toNat (0,1)
structure ME (W:aO) (S:Nat->Std) (n:Nat) (ws:List Fr):Prop where
 len:ws.length=n
 at':∀(j:Nat) (f:Fr),ws[j]?=some f->J_ (bq W (S j).1) (wI (S j).1.length) f
theorem J6{M i:Int}(h:0<=i):J_ M i (0,1):=⟨by decide,by decide,by show(0:Int)<=i*1;lia,Int.one_dvd _⟩
theorem Cn{W:aO}{S:Nat->Std}{n:Nat}{ws:List Fr}{i:Nat}{k:Int}{b:Bool}{l:Int}(h:ME W S n ws)(hl:Hz W n S i k b l):J_ (bq W (aO.askd (S i).1 k)) (wI ((S i).1.length+1)) (lk ws l):=by
 unfold lk;rcases hl with hl|⟨h1,h2,h3⟩;·rw[if_pos hl];exact J6 L0.1
 ·rw[if_neg (by lia)];have hil:l.toNat<ws.length:=by rw[h.len];lia
  have e:ws[l.toNat]?=some (ws.getD l.toNat (0,1)):=by simp[hil]
  have:=h.at' _ _ e;rw[h3]at this;have e1:(nxt W (S i) k b).1.length=(S i).1.length+1:=qH;rw[e1]at this;exact this
theorem iD{cs:En}{g:FG}{ft:FT}{fe:FE}{b:Rh->Bool}{y:Rh->Rh}{u:Rh->En}(n:Nat):∀(items:List Rh) (t:En) (acc:List Rh),t.length=n->(∀x∈items,∀t:En,t.length=n->g x (cs++t)=some (cs++u x))->(∀x∈items,(u x).length=n)->(∀x∈items,ft (cs++u x)=some (b x,cs++u x))->(∀x∈items,b x=true->fe (cs++u x)=some (.d (y x),cs++u x))->acc.length+items.length<=1000000->∃t',t'.length=n/\gq g ft fe items (cs++t) acc=some (acc++(items.filter b).map y,cs++t')|[],t,acc,h,_,_,_,_,_=>⟨t,h,by simp[gq]⟩|x::r,t,acc,h,hg,hu,h1,h2,hl=>by have h1x:=h1 x (by simp);unfold gq;rw[hg x (by simp) t h];simp only[RK,h1x];cases hb:b x with|true=>simp only[if_true,h2 x (by simp) hb,RK,iE];rw[if_pos (by simp at hl;lia)];obtain⟨t',e1,ih⟩:=iD (b:=b) (y:=y) (u:=u) n r (u x) (acc++[y x]) (hu x (by simp)) (λz hz=>hg z (by simp[hz])) (λz hz=>hu z (by simp[hz])) (λz hz=>h1 z (by simp[hz])) (λz hz=>h2 z (by simp[hz])) (by simp at hl⊢;lia);exact⟨t',e1,by rw[ih];simp[hb]⟩|false=>simp only[Vy,if_false];obtain⟨t',e1,ih⟩:=iD (b:=b) (y:=y) (u:=u) n r (u x) acc (hu x (by simp)) (λz hz=>hg z (by simp[hz])) (λz hz=>hu z (by simp[hz])) (λz hz=>h1 z (by simp[hz])) (λz hz=>h2 z (by simp[hz])) (by simp at hl;lia);exact⟨t',e1,by rw[ih];simp[hb]⟩
theorem jI{nT:Nat}{fi:FI}{g:FG}{ft:FT}{fe:FE}{e e1 eo:En}{items out:List Rh}{own:jJ}(h1:fi e=some (items,own,e1))(h3:gq g ft fe items (RF nT none) []=some (out,eo)):cw [] nT fi g ft fe e=some (.l out,e1):=by unfold cw;rw[h1];simp only[RK];rw[if_pos (by simp),show vj [] nT e1=RF nT none from rfl,h3];simp only[RK];rw[if_pos (by simp[jN])];congr 2;refine Uj λi=>?_;rw[b6];match h:e1[i]? with|none=>rfl|some none=>rfl|some (some (.d x))=>rfl|some (some (.n x))=>rfl|some (some (.l x))=>rfl
noncomputable def nS(n:Int):Str:=Rm (toString n)
theorem E9:∀n:Fin 1001,(Rm (toString ((n.val:Nat):Int))).length<=4:=by decide+kernel
theorem IV{n:Int}(h0:0<=n)(h1:n<=1000):(nS n).length<=4:=by have:=E9 ⟨n.toNat,by lia⟩;rw[show(((⟨n.toNat,by lia⟩:Fin 1001).val:Nat):Int)=n by simp;lia]at this;exact this
theorem ui(n:Int):RZ (nS n)=true:=ax _
theorem IM{n:Int}(h0:0<=n)(h1:n<=1000):n.natAbs.log2<1900:=by have:=Nat.log2_le_self n.natAbs;lia
theorem B3{e:En}{i:Int}(h0:0<=i)(h1:i<=1000):g1 iU e [.d (.int i)]=some (.d (.str (nS i))):=by simp only[g1,iU];rw[if_pos (IM h0 h1)];rfl
theorem B4{e:En}{x:Str}:g1 iU e [.d (.str x)]=some (.d (.str x)):=rfl
theorem qr{e:En}{a b:Str}(h:a.length+b.length<=1000000):jl e (.d (.str a)) (.d (.str b))=some (.d (.str (a++b))):=by simp only[jl,bN,RK];rw[if_pos h]
theorem Gb(a b:Str):(a++b).length=a.length+b.length:=strLen_append a b
theorem sum_le{ls:List Str}{k:Nat}(h:∀x∈ls,x.length<=k):(ls.map (·.length)).sum<=ls.length*k:=by induction ls with|nil=>simp|cons x r ih=>have h1:=h x (by simp);have h2:=ih λy hy=>h y (by simp[hy]);simp only[Sb,List.sum_cons,Tp,Nat.succ_mul];lia
section
variable{X:Cx}{K:Rj}{a:Rl}{fa:FE}{pos p pos2 p2:Pos}
end
section
variable{X:Cx}{K:Rj}{a:Rl}{fa:FE}
end
abbrev Rn:=List (Int×Bool)
def EF(R:Rn):List Int:=R.map (·.1)
def GU(W:aO)(R:Rn):List Int:=(R.filter (·.2)).flatMap λr=>[(W.tie r.1).one,(W.tie r.1).other]
structure NS (W:aO) (R:Rn) (asked taken:List Int):Prop where
 pa:asked.Perm (EF R)pt:taken.Perm (GU W R)inw:∀k∈EF R,iV W k
 nd:(EF R).Nodup
 nk:(GU W R).Nodup
 bd:∀t:Int,0<=t->t<W.things->W.many (EF R) t<=W.pat.getD t.toNat 0
 ak:(R.length:Int)<=W.asks
 sa:asked.Pairwise (·<=·)st:taken.Pairwise (·<=·)
section
variable{prog:Rw}{w:Ro}{A:Rz}{R:Result->Rg->Prop}
end
def JX(l:xM)(wi:TI)(g:TG)(tc:TT)(te:TE)(σ:L2.St)(H:Hp)(N:L2.St->Hp->Prop):Prop:=wi σ H λJ H1=>∃W:Nat->Nat->L2.St->Hp->Prop,(∃m,W 0 m σ H1)/\∀i m σ' H',W i m σ' H'->(J.stop i H'/\N σ' H')\/(J.go i H'/\∃N2:L2.St->Hp->Prop,(∀σ2 H2,N2 σ2 H2->∃m',m'<m/\W (i+1) m' σ2 H2)/\∀x H2,J.yld i H' x H2->g x σ' H2 λσ2 H3=>tc σ2 H3 λb H4=>if b=true then te σ2 H4 λv H5=>∃ys,H5 l=some (.lst ys)/\ys.length<RH/\N2 σ2 (bg H5 l (.lst (ys++[v]))) else N2 σ2 H4)
structure M4 (cp:List (Nat×Str)) (nT:Nat) (wi:TI) (g:TG) (tc:TT) (wi2:TI) (g2:TG) (tc2:TT) (te:TE) (σ:L2.St) (H:Hp) (Q:VK):Prop where go:wi σ H λJ H1=>∀l,H1 l=none->∃W:Nat->Nat->L2.St->Hp->Prop,(∃m,W 0 m (jD cp nT σ) (bg H1 l (.lst [])))/\∀i m σ' H',W i m σ' H'->(J.stop i H'/\Q (.ref l) H')\/(J.go i H'/\∃N:L2.St->Hp->Prop,(∀σ2 H2,N σ2 H2->∃m',m'<m/\W (i+1) m' σ2 H2)/\∀x H2,J.yld i H' x H2->g x σ' H2 λσ2 H3=>tc σ2 H3 λb H4=>if b=true then JX l wi2 g2 tc2 te σ2 H4 N else N σ2 H4)
section
variable{K:Rj}{F H:Hp}{σ:L2.St}{e:En}{cp:List (Nat×Str)}{nT:Nat}
end
section
variable{X:Cx}{K:Rj}{pos:Pos}
end
section
variable{X:Cx}{K:Rj}{pos:Pos}
variable{o:Rl}{fo:FE}{apos cpos:Pos}
end
section
variable{X:Cx}{K:Rj}
def N_:List Int->Int|[]=>0|x::r=>r.foldl max x
end
structure NP (f:Fr):Prop where
 pos:0<f.2
 cop:RN f.1 f.2=1
def NZ(t:l6)(b:Bool):Fr:=if b then(t.top,t.bot) else(t.bot-t.top,t.bot)
abbrev Pg:=List Int×Int
def N'(t:l6)(p:Pg):Bool:=!p.1.contains t.one&&!p.1.contains t.other
def MG(t:l6)(p:Pg):Pg:=(p.1++[t.one,t.other],p.2+t.worth)
def Oe(ps:List Pg)(t:l6):List Pg:=ps++(ps.filter (N' t)).map (MG t)
def Oa(ts:List l6):List Pg:=ts.foldl Oe [([],0)]
structure Nm (k:Nat) (ps:List Pg):Prop where
 ne:ps≠[]len:ps.length<=2^k
 pt:∀p∈ps,p.1.length<=2*k/\0<=p.2/\p.2<=1000*(k:Int)
def Nr(ts:List l6):Int:=N_ ((Oa ts).map (·.2))
theorem x_{cp:List (Nat×Str)}{nT:Nat}{fi:FI}{g:FG}{ft:FT}{fe:FE}{e e1 eo:En}{items out:List Rh}{own:jJ}(h1:fi e=some (items,own,e1))(ho:(own.all λq=>!(cp.any λc=>c.1==q.1))=true)(h3:gq g ft fe items (vj cp nT e1) []=some (out,eo))(h4:(cp.all λp=>!zJ e1[p.1]?)=true):cw cp nT fi g ft fe e=some (.l out,e1):=by
 unfold cw;rw[h1];simp only[RK];rw[if_pos ho,h3];simp only[RK];have hb:jN cp eo e1=true:=by unfold jN;rw[Sk]at h4⊢;intro p hp;rw[h4 p hp];rfl
 rw[if_pos hb];congr 2;refine Uj λi=>?_;rw[b6];match hi:e1[i]? with|none=>rfl|some none=>rfl|some (some (.d x))=>rfl|some (some (.n x))=>rfl|some (some (.l x))=>cases hp:o_ cp i with|none=>simp[hp]|some k=>obtain⟨s,hs⟩:=fM hp;have:=Sk.mp h4 _ (Rf hs);simp[hi,zJ]at this
section
variable{prog:Rw}{w:Ro}{A:Rz}{E:Oq->Rg->Prop}{s:Rg}
end
section
variable{X:Cx}{a:Rl}{ta:TA}{p p2 pos pos2:Pos}
variable{K:Rj}{fs:FA}{p3:Pos}
end
def KI(lo hi:Int):Rh->Bool|.int i=>decide (lo<=i)&&decide (i<=hi)|_=>false
def uniq(many:Int):List Int->List Rh->Bool|_,[]=>true|pre,.int i::r=>KI 0 (many-1) (.int i)&&(!pre.contains i&&uniq many (pre++[i]) r)|_,_::_=>false
mutual
def wt:Rh->Nat|.list xs=>Ec xs+1|.tuple xs=>Ec xs+1|.dict _=>1|.none=>1|.bool _=>1|.int _=>1|.str _=>1
def Ec:List Rh->Nat|[]=>0|x::r=>wt x+Ec r
end
structure Oi (d:Rh) (k:Nat):Prop where
 lay:d.canLay0=true
 sh:d.showable=true
 dp:d.depth<=k
 ln:d.shown.length+2<=104*wt d
 so:RZ d.shown=true
theorem BV{e:En}{xs:List Rh}{neg:Bool}(hs:Sd (.tuple xs)=true):bc neg e (.d (.tuple xs)) (.d (.tuple []))=some (.d (.bool (if neg then !xs.isEmpty else xs.isEmpty))):=by
 unfold bc;simp only[iX,RK,hs];have h0:Sd (.tuple [])=true:=by simp[Sd,Sn,Tg,SF,TH]
 rw[h0];cases xs<;>simp[Th,PyData.eqvAll]
section
variable{X:Cx}{K:Rj}
variable{a b:Rl}{fa fb:FE}{pos:Pos}
end
def tx(s:Str):List Nat:=s.cps.toList
section
variable{X:Cx}{K:Rj}{es:List Rl}{k0:Nat}{tp:Pos}{a b:Rl}{fs:FA}{p pos:Pos}
end
def N8(x:Nd)(b:Bool):Int:=if b=true then x.yes else x.no
def G6(T:List Nd)(i:Nat)(b:Bool):Int:=match T[i]? with|some x=>N8 x b|none=>-1
def MC(T:List Nd):Prop:=∀(i j:Nat) (a b:Bool),G6 T i a=G6 T j b->G6 T i a≠-1->i=j/\a=b
def Nf(w:Wt):Int×Int:=(w.par,w.side)
structure Oo (T:List Nd) (ws:List Wt):Prop where
 unq:MC T
 rng:∀i a,G6 T i a=-1\/(0<G6 T i a/\G6 T i a<(T.length:Int))free:∀w∈ws,w.par=-1\/(0<=w.par/\w.par<(T.length:Int)/\G6 T w.par.toNat (w.side==0)=-1)dst:(ws.map Nf).Nodup
 side:∀w∈ws,w.side=0\/w.side=1
structure Ow (T:List Nd) (w0 ws order:List Int):Prop where
 nd:(order++ws).Nodup
 par:∀v∈order++ws,v=0\/∃u∈order,∃b,G6 T u.toNat b=v/\v≠-1
 fst:(order=[]/\ws=w0)\/order[0]?=some 0
section
variable{prog:Rw}{w:Ro}{A:Rz}{E:Oq->Rg->Prop}{s:Rg}
end
section
variable{X:Cx}{tg a:Rl}{ta:TA}{p pos:Pos}
end
section
variable{X:Cx}{K:Rj}{σ:L2.St}{tg a:Rl}{fs:FA}{p pos:Pos}
end
section
variable{X:Cx}{a k:Rl}{p2 pos:Pos}{fa fk:FE}{K:Rj}
section
variable{prog:Rw}{w:Ro}{A:Rz}{E:Oq->Rg->Prop}{s:Rg}
end
end
section
variable{X:Cx}{a b:Rl}{ta:TA}{p p2 pos pos2:Pos}{K:Rj}{fs:FA}
end
section
variable{X:Cx}{o i e:Rl}{fo fi:FE}{tpos pos:Pos}{K:Rj}
end
section
variable{X:Cx}{o i e:Rl}{fo fi fv:FE}{tpos pos:Pos}{K:Rj}
end
section
variable{X:Cx}{K:Rj}
end
section
open PySem.MeetsSeq2 PySem.AutoSeq1 PySem.SeqAt
end
section
variable{X:Cx}{K:Rj}{o a:Rl}{to te:TE}{name:Str}{apos cpos:Pos}{T id:String}{r:V->List V->Hp->VK->Prop}{fo fa:FE}
end
section
variable{X:Cx}{K:Rj}{o a:Rl}{apos cpos:Pos}{fo fa:FE}
end
section
variable{K:Rj}{F H:Hp}{σ:L2.St}{e:En}{cp:List (Nat×Str)}{nT:Nat}
end
section
variable{X:Cx}{K:Rj}{a b:Rl}{es:List Rl}{fa fb:FE}{fs:FA}{pos p p2 p3:Pos}{lo hi:Option Rl}
end
section
variable{X:Cx}{K:Rj}
end
section
variable{X:Cx}{K:Rj}{a b:Rl}{fa fb:FE}{pos:Pos}
end
section
variable{X:Cx}{K:Rj}
end
structure Sw (b:Bool) (n dep:Nat) (d:Rh):Prop where
 dl:bif b then CB d=true else d.hasDict=false
 sh:d.showable=true
 dp:d.depth<=dep
 ln:d.shown.length+2<=n
 so:RZ d.shown=true
structure S1 (n:Nat) (f:Fr):Prop where
 low:NP f
 lo:0<=f.1
 hi:f.1<=f.2
 bt:Bt n f.2
def N7(e:Int)(t:l6):Bool:=t.one==e||t.other==e
structure Ox (b f g:Fr):Prop where
 pf:0<f.2
 pg:0<g.2
 eq:g.1*(f.2*b.1)=g.2*(f.1*b.2)
def vR(f:Fr):Rat:=(f.1:Rat)/(f.2:Rat)
def cR(t:l6)(b:Bool):Rat:=vR (NZ t b)
def hR(t:l6):Rat:=cR t true*(t.worth:Rat)
structure Ou (O:aO) (ss ws:List Std):Prop where
 len:ss.length=ws.length
 at':∀j,(ss.getD j ([],[])).1=(ws.getD j ([],[])).1/\(ss.getD j ([],[])).2.length<=2*(ss.getD j ([],[])).1.length/\∀k∈(ss.getD j ([],[])).1,iV O k
structure Om (O:aO) (T:List Nd):Prop where
 tie:∀(i:Nat) (x:Nd),T[i]?=some x->iV O x.tie
 lk:∀(i:Nat) (x:Nd),T[i]?=some x->(-1<=x.yes/\x.yes<(T.length:Int))/\(-1<=x.no/\x.no<(T.length:Int))
section
variable{K:Rj}
variable{X:Cx}{σ:L2.St}{H0 H:Hp}{e:En}
end
section
variable{X:Cx}{a b:Rl}{ta:TA}{p p2 pos pos2:Pos}
end
section
variable{X:Cx}{K:Rj}{fs:FA}{a b:Rl}{p p2 pos pos2:Pos}
end
theorem bU:∀(names:List (Str×SM)) (n:Nat) (acc:List (Str×xM)),Si n names acc=Si n names []++acc
 |[],_,_=>rfl|(x,k)::r,n,acc=>by
  unfold Si;split;·rw[bU r (n+1) ((x,n)::acc),bU r (n+1) [(x,n)],List.append_assoc];rfl
  ·exact bU r n acc
theorem jO:∀(names:List (Str×SM)) (n:Nat) (x:Str) (c:xM),(Si n names []).lookup x=some c->∃y∈names,y.1=x/\y.2=.cell
 |[],_,_,_,h=>by simp[Si]at h|(z,k)::r,n,x,c,h=>by
  unfold Si at h;split at h;·rename_i hk;rw[bU,Vd]at h;cases q:(Si (n+1) r []).lookup x with|some d=>obtain⟨y,hy,e⟩:=jO r _ x d q;exact⟨y,SS _ hy,e⟩|none=>rw[q]at h;have h':Sg x [(z,n)]=some c:=h;rw[Sm]at h';cases hx:x==z with|true=>exact⟨(z,k),TN,(by simpa using hx:x=z).symm,by simpa using hk⟩|false=>rw[hx]at h';simp at h'
  ·obtain⟨y,hy,e⟩:=jO r n x c h;exact⟨y,SS _ hy,e⟩
theorem i_:∀(names:List (Str×SM)) (n:Nat) (x:Str),(∃y∈names,y.1=x/\y.2=.cell)->∃c,(Si n names []).lookup x=some c
 |[],_,_,⟨_,h,_⟩=>by cases h|(z,k)::r,n,x,⟨y,hy,e1,e2⟩=>by
  unfold Si;split;·rename_i hk;rw[bU,Vd];cases q:(Si (n+1) r []).lookup x with|some d=>exact⟨d,rfl⟩|none=>
   rcases Re hy with w|w;·subst w;subst e1;exact⟨n,by simp[Sm]⟩
   ·obtain⟨c,hc⟩:=i_ r (n+1) x ⟨y,w,e1,e2⟩;rw[q]at hc;cases hc
  ·rename_i hk;rcases Re hy with w|w;·subst w;exact absurd (by simpa using e2) hk
   ·exact i_ r n x ⟨y,w,e1,e2⟩
theorem tU{env:Env}:∀(names:List (Str×SM)) (cs:List (Str×xM)) (x:Str),(¬∃y∈names,y.1=x/\y.2=.free)->cs.lookup x=none->(jP env names cs).lookup x=none
 |[],_,_,_,h=>h|(n,k)::r,cs,x,hn,hcs=>by
  refine tU r _ x (λ⟨y,hy,z⟩=>hn ⟨y,SS _ hy,z⟩) ?_;by_cases hk:(k==SW)=true;·rw[if_pos hk,Sm];cases hx:x==n with|true=>exact absurd ⟨(n,k),TN,(by simpa using hx:x=n).symm,by simpa using hk⟩ hn|false=>exact hcs
  ·rw[if_neg hk];exact hcs
theorem rQ{env:Env}:∀{names:List (Str×SM)}{x:Str},(names.map fun(n,k)=>if (k==SW&&env.scope.kind==.function&&env.kindOf n==some .cell) then(n,Uz) else(n,k)).lookup x=some .cell\/(names.map fun(n,k)=>if (k==SW&&env.scope.kind==.function&&env.kindOf n==some .cell) then(n,Uz) else(n,k)).lookup x=some .free->∃y∈names,y.1=x/\(y.2=.free\/y.2=.cell)
 |[],x,h=>by simp at h|(n,k)::r,x,h=>by
  have ih:=@rQ env r x;rw[Sb]at h;cases hx:x==n with|true=>
   have e1:x=n:=by simpa using hx
   subst e1;refine⟨(x,k),TN,rfl,?_⟩;by_cases q:(k==SW&&env.scope.kind==.function&&env.kindOf x==some .cell)=true;·simp only[Sr,beq_iff_eq]at q;exact .inl q.1.1
   ·simp only[q,Vy,if_false,Sm,beq_self_eq_true,Us]at h;exact h.symm|false=>
   have e2:∀(l:List (Str×SM)),((if (k==SW&&env.scope.kind==.function&&env.kindOf n==some .cell)=true then(n,Uz) else(n,k))::l).lookup x=l.lookup x:=λl=>by split<;>simp[Sm,hx]
   simp only[e2]at h;obtain⟨y,hy,z⟩:=ih h;exact⟨y,SS _ hy,z⟩
theorem E_{M:Model}{A:Rz}{E:Oq->Rg->Prop}{s:Rg}{scope:RU}{globals:xM}{closure:List (Str×xM)}{qual:Str}{func:Option xM}{code:Oq}{env:Env}{builtins:xM}{Q:Env->Rg->Prop}(hQ:∀h',h'.Ns s.heap.objs.size (λ_=>none)->(∀b o,s.heap.get? b=some o->h'.get? b=some o)->(∀n c,(Si (s.heap.objs.size+1) scope.names []).lookup n=some c->h'.IsCell c none/\s.heap.objs.size+1<=c)->((Si (s.heap.objs.size+1) scope.names []).Pairwise λx y=>x.2≠y.2)->Q (newEnv scope s.heap.objs.size globals (Si (s.heap.objs.size+1) scope.names closure) qual func code (some env) builtins) {s with heap:=h'}):Rr M A (newFunctionEnv scope globals closure [] qual func code (some env) builtins) Q E s:=by simp only[newFunctionEnv,Option.isSome_some,if_true];refine Rq (wpAny_alloc ?_);refine Rq (wpAny_layCells _ (λname kind cells=>by cases hkc:kind==Uz<;>simp[hkc]) _ _ _ _ ?_);have ok:=cellsFrom_ok scope.names (s.heap.push {cls:=.type "dict",data:=.dict #[]}) (s.heap.objs.size+1) [] ⟨λ_ _ hm=>(nomatch hm),List.Pairwise.nil⟩ (by rw[Ts];exact RL _);rw[Ts]at ok;rw[show({s with heap:=s.heap.push {cls:=.type "dict",data:=.dict #[]}}:Rg).heap.objs.size=s.heap.objs.size+1 from Ts ..];refine Rq ?_;rw[List.forIn_nil];refine RG (RG ?_);exact hQ _ ((Heap.Ns.new s.heap (.type "dict")).keeps (pushCells_keeps _ _)) (λb o e=>pushCells_keeps _ _ b o (Sf _ e)) (λn c e=>ok.empty n c (mem_of_lookup e)) ok.apart
def aY(X:Cx)(scope:RU)(cp:List (Nat×Str))(tgN:List Str)(C:xM)(s0:Rg)(H0:Hp)(fp:List xM):Cx where prog:=X.prog;w:=X.w;K:=X.K;mg:=X.mg;base:=X.base;A:=X.A;N:=cp.map (·.2)++tgN;s₀:=s0;H₀:=H0;env:=compEnvC scope (Si (C+1) scope.names (jP X.env scope.names [])) C X.env;outer:=X.stack;stack:=X.stack;ex:=fp;fn:=λx=>scope.names.lookup x==some .local||scope.names.lookup x==some .cell;calm:=X.calm;pn:=[];xe:=λ_ _=>False
theorem AA{X:Cx}{scope:RU}{sc0:RU}{N0:List Str}{cp:List (Nat×Str)}{tgN:List Str}{pins:List (xM×Obj)}{σ:L2.St}{H3:Hp}{s₃:Rg}{C:xM}{h₁:Ru}{fp:List xM}(hsc:X.env.scope=sc0)(hN0:X.N=N0)(hk:scope.kind=.function)(hown:∀y∈scope.names,y.2=.cell->scope.names.lookup y.1=some .cell)(hfr:∀y∈scope.names,y.2=.free->scope.names.lookup y.1=some .free/\sc0.names.lookup y.1=some .cell)(hcp:∀p∈cp,N0[p.1]?=some p.2)(hcq:∀p∈cp,sc0.names.lookup p.2=some .cell/\scope.names.lookup p.2=some .free)(I3:aI X pins σ H3 s₃)(f3:∀b∈fp,ky X pins H3 b)(hob:∀b∈fp,∃o,s₃.heap.get? b=some o)(hC:s₃.heap.objs.size=C)(hns₁:h₁.Ns C (λ_=>none))(old:∀b o,s₃.heap.get? b=some o->h₁.get? b=some o)(hownC:∀n c,(Si (C+1) scope.names []).lookup n=some c->h₁.IsCell c none/\C+1<=c)(apC:(Si (C+1) scope.names []).Pairwise λx y=>x.2≠y.2):(aY X scope cp tgN C s₃ H3 fp).Ok/\aI (aY X scope cp tgN C s₃ H3 fp) [] (jD cp tgN.length σ) H3 {s₃ with heap:=h₁}:=by
 have hkind:∀x,X.env.kindOf x=sc0.names.lookup x:=λx=>by unfold Env.kindOf;rw[hsc]
 have hfree:∀y∈scope.names,y.2=.free->∃c,X.env.cells.lookup y.1=some c:=λy hy e=>I3.ok.has y.1 (.inl (by rw[hkind];exact(hfr y hy e).2));have nC:∀b o,s₃.heap.get? b=some o->b≠C:=λb o e=>by rw[<-hC];exact SJ (RM e)
 have hHC:H3 C=none:=I3.hok.fresh (by rw[hC];exact RL _);have clS:∀x c,(jP X.env scope.names []).lookup x=some c->X.env.cells.lookup x=some c:=λx c e=>qM _ _ x c hfree (λ_ _ z=>by simp at z) e;have clH:∀x,(∃y∈scope.names,y.1=x/\y.2=.free)->∃c,(jP X.env scope.names []).lookup x=some c:=λx e=>wM _ _ x (.inl e);have clN:∀x,(¬∃y∈scope.names,y.1=x/\y.2=.free)->(jP X.env scope.names []).lookup x=none:=λx q=>tU _ _ x q rfl;have two:∀x c,(Si (C+1) scope.names (jP X.env scope.names [])).lookup x=some c->(Si (C+1) scope.names []).lookup x=some c\/(jP X.env scope.names []).lookup x=some c:=λx c e=>by rw[bU,Vd]at e;cases q:(Si (C+1) scope.names []).lookup x with|some d=>rw[q]at e;exact .inl e|none=>rw[q]at e;exact .inr e
 have ltC:∀x c,(jP X.env scope.names []).lookup x=some c->c<C:=λx c e=>by obtain⟨v,o,ho,_⟩:=I3.cell x c (clS x c e);rw[<-hC];exact RM ho
 have clF:∀x,(∃y∈scope.names,y.1=x/\y.2=.free)->(Si (C+1) scope.names (jP X.env scope.names [])).lookup x=(jP X.env scope.names []).lookup x:=λx⟨y,hy,e1,e2⟩=>by rw[bU,Vd];cases q:(Si (C+1) scope.names []).lookup x with|none=>rfl|some d=>exfalso;obtain⟨z,hz,z1,z2⟩:=jO scope.names _ x d q;have a1:=hown z hz z2;have a2:=(hfr y hy e2).1;rw[z1]at a1;rw[e1,a1]at a2;cases a2
 have hasC:∀x,(∃y∈scope.names,y.1=x/\(y.2=.free\/y.2=.cell))->∃c,(Si (C+1) scope.names (jP X.env scope.names [])).lookup x=some c:=λx⟨y,hy,e1,e2⟩=>by
  rcases e2 with e2|e2;·rw[clF x ⟨y,hy,e1,e2⟩];exact clH x ⟨y,hy,e1,e2⟩
  ·rw[bU,Vd];obtain⟨c,hc⟩:=i_ scope.names (C+1) x ⟨y,hy,e1,e2⟩;exact⟨c,by rw[hc];rfl⟩
 have ok':(aY X scope cp tgN C s₃ H3 fp).Ok:=by
  refine⟨I3.ok.mod,hk,I3.ok.glob,I3.ok.blt,by rw[<-hC];exact RL _,λx y c e1 e2=>?_,λx e=>hasC x (rQ e),λx c e1 e2=>?_,I3.ok.hd,I3.ok.frames,.inl rfl,λb hb=>?_,λb o e=>I3.bs b o e,?_,λb o e hb=>?_,λb hb z=>?_,I3.stack,λb hb=>I3.stkFree b hb⟩
  ·rcases two x c e1 with e1|e1<;>rcases two y c e2 with e2|e2;·exact name_of_addr apC (mem_of_lookup e1) (mem_of_lookup e2)
   ·exact(Tw _ (Nat.lt_trans (ltC y c e2) (hownC x c e1).2)).elim
   ·exact(Tw _ (Nat.lt_trans (ltC x c e1) (hownC y c e2).2)).elim
   ·exact I3.ok.inj x y c (clS _ _ e1) (clS _ _ e2)
  ·rcases two x c e2 with e2|e2;·show s₃.heap.objs.size<=c;rw[hC];exact Nat.le_of_succ_le (hownC x c e2).2
   ·exfalso;have e1':scope.names.lookup x=some .local\/scope.names.lookup x=some .cell:=by simpa[aY]using e1
    by_cases q:∃y∈scope.names,y.1=x/\y.2=.free;·obtain⟨y,hy,y1,y2⟩:=q;have z:=(hfr y hy y2).1;rw[y1]at z;rcases e1' with w|w<;>(rw[z]at w;cases w)
    ·rw[clN x q]at e2;cases e2
  ·obtain⟨f0,f1,f4,f5,f6,f7⟩:=f3 b hb;obtain⟨o,ho⟩:=hob b hb;exact⟨nC b o ho,λx c e=>(two x c e).elim (λe z=>absurd (hownC x c e).2 (by rw[z,<-hC];exact Nat.not_le.mpr (Nat.lt_succ_of_lt (RM ho)))) (λe=>f6 x c (clS x c e))⟩
  ·exact Sl I3.ok.bsz I3.sz
  ·obtain⟨f0,f1,f4,f5,f6,f7⟩:=f3 b hb;rcases f5 with z|z;·exact I3.ok.noex b o e z
   ·have:=(I3.ok.bs b o e).1;exact absurd (So (RM this) z) (Tw _)
  ·obtain⟨f0,f1,f4,f5,f6,f7⟩:=f3 b hb;rcases Re (I3.stkSub b z) with z|z;·exact f1 z
   ·exact f4 z
 have I4:aI (aY X scope cp tgN C s₃ H3 fp) [] (jD cp tgN.length σ) H3 {s₃ with heap:=h₁}:=by
  refine⟨ok',rfl,I3.bare,Un.kept old,⟨_,hns₁,λi x v e1 e2 e3=>?_⟩,λx c e=>?_,hHC,λx c e=>(two x c e).elim (λe=>I3.hok.fresh (by rw[hC];exact Nat.le_of_succ_le (hownC x c e).2)) (λe=>I3.freeC x c (clS x c e)),λp hp=>by simp[aY]at hp,I3.hok.kept old,by simp[jD,aY]⟩
  ·have hlt:i<cp.length:=by
    by_cases q:i<cp.length;·exact q
    ·exfalso;unfold jD at e2;rw[List.getElem?_append_right (by simp;lia)]at e2;rw[VU]at e2;split at e2<;>cases e2
   have e1':(cp.map (·.2))[i]?=some x:=by have e1'':(cp.map (·.2)++tgN)[i]?=some x:=e1;rwa[TC (by simp;exact hlt)]at e1''
   have e2':(cp.map (λp=>(σ[p.1]?).join))[i]?=some (some v):=by unfold jD at e2;rwa[TC (by simp;exact hlt)]at e2
   rw[RY,SN hlt]at e1' e2';have ex:(cp[i]).2=x:=by simpa using e1'
   have ev:(σ[(cp[i]).1]?).join=some v:=by simpa using e2'
   have ev':σ[(cp[i]).1]?=some (some v):=by cases q:σ[(cp[i]).1]? with|none=>rw[q]at ev;cases ev|some z=>rw[q]at ev;simp only[Option.join_some]at ev;rw[ev]
   have hN:=hcp cp[i] (VA hlt);rw[<-hN0]at hN;obtain⟨hcl,hcf⟩:=hcq cp[i] (VA hlt);rw[ex]at hN hcl hcf;obtain⟨m,hn,hl⟩:=I3.loc;obtain⟨u,r,l⟩:=hl _ x v hN ev' (.inr (.inl (by rw[hsc];exact hcl)));refine⟨u,r,.inr ?_⟩;rcases l with⟨k1,_⟩|⟨k1,c,hcc,o,ho,hd⟩;·rw[hkind,hcl]at k1;cases k1
   ·have e3':(relabel scope X.env).names.lookup x=some .local\/(relabel scope X.env).names.lookup x=some .cell\/(relabel scope X.env).names.lookup x=some .free:=e3;have nl:(relabel scope X.env).names.lookup x=some .cell\/(relabel scope X.env).names.lookup x=some .free:=by
     rcases e3' with z|z|z;·exact absurd z (kg hcf)
     ·exact .inl z
     ·exact .inr z
    have fr:∃y∈scope.names,y.1=x/\y.2=.free:=⟨(x,.free),mem_of_lookup hcf,rfl,rfl⟩;obtain⟨c',hc'⟩:=clH x fr;have:=clS x c' hc';rw[hcc]at this;cases this;exact⟨nl,c,(clF x fr).trans hc',o,old c o ho,hd⟩
  ·rcases two x c e with e|e;·exact⟨none,(hownC x c e).1⟩
   ·obtain⟨v,o,ho,hd⟩:=I3.cell x c (clS x c e);exact⟨v,o,old c o ho,hd⟩
 exact⟨ok',I4⟩
theorem AB{X:Cx}{scope:RU}{cp:List (Nat×Str)}{tgN:List Str}{pins:List (xM×Obj)}{σ σ5:L2.St}{H3 H5:Hp}{s₃ s6:Rg}{C:xM}{fp:List xM}(I3:aI X pins σ H3 s₃)(f3:∀b∈fp,ky X pins H3 b)(nC:∀b o,s₃.heap.get? b=some o->b≠C)(I6:aI (aY X scope cp tgN C s₃ H3 fp) [] σ5 H5 s6)(h':Ru)(sb:Ud C s6.heap h'):aI X pins σ H5 {s6 with heap:=h'}:=by
 have ub:=I6.base;have kp:∀b u,b≠C->s6.heap.get? b=some u->h'.get? b=some u:=λb u ne e=>sb.extBut b u ne e;have nit:∀b u,H5 b=some u->b≠C:=λb u e z=>by have:=I6.free;rw[z]at e;rw[show H5 C=none from this]at e;cases e
 refine I3.call' (s':={s6 with heap:=h'}) (ch:=fp) I6.os ⟨λb o e n hb hx=>kp b o (nC b o e) (ub.keep b o e n hb hx),λb o e n hb hx=>?_,ub.free,λb o e hx=>?_,ub.tups,ub.frzs,ub.tbls⟩ (λb u e=>?_) I6.bare (λb hb=>?_);·obtain⟨sl,q⟩:=ub.slot b o e n hb hx;exact⟨sl,kp b _ (nC b o e) q⟩
 ·obtain⟨o',q⟩:=ub.there b o e hx;exact⟨o',kp b _ (nC b o e) q⟩
 ·refine(I6.hok b u e).stay (λc v hc q=>kp c v ?_ q) (λ_ q=>q) λ_ _ q=>q;rcases hc with z|z;·rw[z];exact nit b u e
  ·exact nit c _ z
 ·obtain⟨f0,f1,f4,f5,f6,f7⟩:=f3 b hb;exact⟨f5,f1,f6,f7⟩
theorem wQ{X:Cx}{use:Option (Oq->Sem Unit)}{RR:Oq->Rg->Prop}{pins:List (xM×Obj)}{s:Rg}{σ:L2.St}{H:Hp}{Q:VK}{elt iter tg:Rl}{ifs:List Rl}{scope:RU}{pos:Pos}{wi:TI}{g:TG}{tc:TT}{te:TE}(sc0:RU)(N0:List Str)(cp:List (Nat×Str))(tgN:List Str)(hc:X.calm=true)(hsc:X.env.scope=sc0)(hN0:X.N=N0)(hi:PI X tg iter wi)(hg:∀C s0 H0 fp,PG (aY X scope cp tgN C s0 H0 fp) tg g)(ht:∀C s0 H0 fp,Bs (aY X scope cp tgN C s0 H0 fp) ifs tc)(he:∀C s0 H0 fp,PE (aY X scope cp tgN C s0 H0 fp) elt te)(hk:scope.kind=.function)(hown:∀y∈scope.names,y.2=.cell->scope.names.lookup y.1=some .cell)(hnames:∀y∈scope.names,y.2=.local->scope.names.lookup y.1=some .local)(hfr:∀y∈scope.names,y.2=.free->scope.names.lookup y.1=some .free/\sc0.names.lookup y.1=some .cell)(hcp:∀p∈cp,N0[p.1]?=some p.2)(hcq:∀p∈cp,sc0.names.lookup p.2=some .cell/\scope.names.lookup p.2=some .free)(hs:∀x,Uh iter X.env x=pure x)(I:aI X pins σ H s)(h:Ai cp tgN.length wi g tc te σ H Q)(fin:∀(C D:xM) (H5:Hp) (s6:Rg),(∃m,s6.heap.Ns C m)->Q (.ref D) H5->ky X pins H5 C->(∀h',Ud C s6.heap h'->aI X pins σ H5 {s6 with heap:=h'})->compPost (Ry X.prog X.w) X.A X.xe use RR (.ref D) C (.ok .next) s6):Rr (Ry X.prog X.w) X.A (comprehension (.ListComp elt [⟨tg,iter,ifs,0⟩] scope pos) scope X.env (firstIterPos [⟨tg,iter,ifs,0⟩] pos) (newList []) (firstAsync [⟨tg,iter,ifs,0⟩]) (firstIter [⟨tg,iter,ifs,0⟩] X.env) use) RR X.xe s:=by
 have hkind:∀x,X.env.kindOf x=sc0.names.lookup x:=λx=>by unfold Env.kindOf;rw[hsc]
 have hfree:∀y∈scope.names,y.2=.free->∃c,X.env.cells.lookup y.1=some c:=λy hy e=>I.ok.has y.1 (.inl (by rw[hkind];exact(hfr y hy e).2));refine wpAny_comprehension_free (use:=use) rfl hs (yr hfree) hk hnames (Ta (hi pins s σ H _ I h.go) (λxv s₁ h₁=>Ta h₁ (λitv s₂ h₂=>?_) λ_ _ e=>e) λ_ _ e=>e);obtain⟨it,fp,tn,J,H2,rfl,I2,T,st2,f2,hq⟩:=h₂;refine Ue ?_;have hlF:H2 s₂.heap.objs.size=none:=I2.hok.fresh (RL _);have I3:aI X pins σ (bg H2 s₂.heap.objs.size (.lst [])) {s₂ with heap:=s₂.heap.push {cls:=.type "list",data:=.seq ([]:List Oq).toArray}}:=I2.lnew (t':=s₂.toks) .nil (Tq _);obtain⟨W,⟨m0,w0⟩,turn⟩:=hq _ hlF;have f3:∀b∈fp,ky X pins (bg H2 s₂.heap.objs.size (.lst [])) b:=λb hb=>by obtain⟨f0,fr⟩:=f2 b hb;obtain⟨o,ho,_⟩:=T.obj _ _ st2 b hb;exact⟨by rw[av (SJ (RM ho))];exact f0,fr⟩
 have st3:tn 0 (s₂.heap.push {cls:=.type "list",data:=.seq ([]:List Oq).toArray}):=T.keep _ _ _ st2 λb _ o e=>Sf _ e;generalize hD:s₂.heap.objs.size=D at*;generalize hs3:({s₂ with heap:=s₂.heap.push {cls:=.type "list",data:=.seq ([]:List Oq).toArray}}:Rg)=s₃ at*;have hst3:tn 0 s₃.heap:=by rw[<-hs3];exact st3
 refine E_ (λh₁ hns₁ old hownC apC=>?_);generalize hC:s₃.heap.objs.size=C at*;have nC:∀b o,s₃.heap.get? b=some o->b≠C:=λb o e=>by rw[<-hC];exact SJ (RM e)
 obtain⟨ok',I4⟩:=AA (cp:=cp) (tgN:=tgN) hsc hN0 hk hown hfr hcp hcq I3 f3 (λb hb=>let⟨o,e,_⟩:=T.obj _ _ hst3 b hb;⟨o,e⟩) hC hns₁ old hownC apC;have hst4:tn 0 h₁:=T.keep _ _ _ hst3 λb _ o e=>old b o e;have loop:codeAny (Ry X.prog X.w) X.A (.compLoop (.ListComp elt [⟨tg,iter,ifs,0⟩] scope pos) 0 (.ref it) (.ref D) (compEnvC scope (Si (C+1) scope.names (jP X.env scope.names [])) C X.env)) (compPost (Ry X.prog X.w) X.A X.xe use RR (.ref D) C) {s₃ with heap:=h₁}:=by
  refine uY (λn s'=>∃i σ' H',aI (aY X scope cp tgN C s₃ (bg H2 D (.lst [])) fp) [] σ' H' s'/\tn i s'.heap/\(∀b∈fp,H' b=none)/\W i n σ' H') ?_ (n0:=m0) ⟨0,_,_,I4,hst4,λb hb=>(f3 b hb).1,w0⟩;rintro n s5⟨i,σ5,H5,I5,st5,fr5,w5⟩;have stat:∀{H':Hp},(∀b∈fp,H' b=none)->∀b∈fp,ky (aY X scope cp tgN C s₃ (bg H2 D (.lst [])) fp) [] H' b:=λhn b hb=>⟨hn b hb,(ok'.exf b hb).1,ok'.exfs b hb,.inl hb,(ok'.exf b hb).2,λp hp=>by simp[aY]at hp⟩;rcases turn i n σ5 H5 w5 with⟨stop,qn⟩|⟨go,N,hN,step⟩;·refine cZ (T.done (aY X scope cp tgN C s₃ (bg H2 D (.lst [])) fp) rfl rfl rfl hc i [] s5 σ5 H5 (λ_ _=>False) I5 (stat fr5) st5 stop) λr s6⟨hr,I6⟩=>?_;subst hr;refine⟨λ_=>?_,λv z=>by cases z⟩;obtain⟨m,hn,_⟩:=I6.loc;exact fin C D H5 s6 ⟨m,hn⟩ qn (I3.fpOk (by rw[hC];exact RL _) I6.free) (AB I3 f3 nC I6)
  ·refine cZ (T.item (aY X scope cp tgN C s₃ (bg H2 D (.lst [])) fp) rfl rfl rfl hc i [] s5 σ5 H5 (λ_ _=>False) I5 (stat fr5) st5 go) λr s6⟨u,hr,h6⟩=>?_;subst hr;refine⟨λz=>(by cases z),λv z=>?_⟩;cases z;refine cZ h6 λ_ s7⟨x,H7,I7,r7,y7,st7,fr7⟩=>?_;have I7':=I7.pinned (stat fr7) (T.obj _ _ st7);have again:∀{σ8:L2.St}{H8:Hp}{s8:Rg},aI (aY X scope cp tgN C s₃ (bg H2 D (.lst [])) fp) ([]++rH fp s7.heap) σ8 H8 s8->N σ8 H8->∃m,m<n/\∃i σ' H',aI (aY X scope cp tgN C s₃ (bg H2 D (.lst [])) fp) [] σ' H' s8/\tn i s8.heap/\(∀b∈fp,H' b=none)/\W i m σ' H':=fun{σ8 H8 s8}I8 n8=>by obtain⟨m',hm,w8⟩:=hN σ8 H8 n8;refine⟨m',hm,i+1,σ8,H8,I8.unpinned,T.keep _ _ _ st7 λb hb o e=>(I8.pin (b,o) (TU _ (TU _ (j4 hb e)))).1,λb hb=>?_,w8⟩;obtain⟨o,e,d⟩:=T.obj _ _ st7 b hb;exact(I8.pin (b,o) (TU _ (TU _ (j4 hb e)))).2.1
   refine cZ (hg C s₃ (bg H2 D (.lst [])) fp _ s7 σ5 H7 x u _ I7' r7 (step x H7 y7)) λ_ s8⟨σ8,H8,I8,q8⟩=>?_;refine cZ (ht C s₃ (bg H2 D (.lst [])) fp _ s8 σ8 H8 _ I8 q8) λok s9⟨H9,I9,q9⟩=>?_;cases ok with|false=>rw[if_neg Ug]at q9⊢;exact again I9 q9|true=>rw[if_pos rfl]at q9⊢;refine cZ (he C s₃ (bg H2 D (.lst [])) fp _ s9 σ8 H9 _ I9 q9) λv s10⟨xv,H10,I10,r10,ys,hl,hz,n10⟩=>?_;refine cZ (ug _ s10 σ8 H10 (.ref D) [xv] (.ref D) [v] (λ_ H=>N σ8 H) I10 rfl (.cons r10 .nil) ⟨D,ys,xv,rfl,rfl,hl,hz,n10⟩) λ_ s11⟨_,H11,I11,_,q11⟩=>?_;exact again I11 q11
 exact codeAny_compStart_list loop (T.self X.A 0 _ _ _ hst4 loop)
theorem CT{X:Cx}{elt iter tg:Rl}{ifs:List Rl}{scope:RU}{pos:Pos}{wi:TI}{g:TG}{tc:TT}{te:TE}(sc0:RU)(N0:List Str)(cp:List (Nat×Str))(tgN:List Str)(hc:X.calm=true)(hsc:X.env.scope=sc0)(hN0:X.N=N0)(hi:PI X tg iter wi)(hg:∀C s0 H0 fp,PG (aY X scope cp tgN C s0 H0 fp) tg g)(ht:∀C s0 H0 fp,Bs (aY X scope cp tgN C s0 H0 fp) ifs tc)(he:∀C s0 H0 fp,PE (aY X scope cp tgN C s0 H0 fp) elt te)(hk:scope.kind=.function)(hown:∀y∈scope.names,y.2=.cell->scope.names.lookup y.1=some .cell)(hnames:∀y∈scope.names,y.2=.local->scope.names.lookup y.1=some .local)(hfr:∀y∈scope.names,y.2=.free->scope.names.lookup y.1=some .free/\sc0.names.lookup y.1=some .cell)(hcp:∀p∈cp,N0[p.1]?=some p.2)(hcq:∀p∈cp,sc0.names.lookup p.2=some .cell/\scope.names.lookup p.2=some .free)(hs:∀x,Uh iter X.env x=pure x:=by intro _;rfl):PE X (.ListComp elt [⟨tg,iter,ifs,0⟩] scope pos) (Ai cp tgN.length wi g tc te):=by intro pins s σ H Q I h;rw[eval_ListComp];exact wQ sc0 N0 cp tgN hc hsc hN0 hi hg ht he hk hown hnames hfr hcp hcq hs I h λC D H5 s6⟨m,hn⟩q _ key=>⟨m,hn,λh' sb=>⟨.ref D,H5,key h' sb,rfl,q⟩⟩
def Ey(sc0 scope:RU)(N0:List Str)(cp:List (Nat×Str))(W:List Nat):Bool:=(scope.names.all λy=>(!(y.2==.local)||scope.names.lookup y.1==some .local)&&(!(y.2==.cell)||scope.names.lookup y.1==some .cell)&&(!(y.2==.free)||(scope.names.lookup y.1==some .free&&sc0.names.lookup y.1==some .cell)))&&(cp.all λp=>N0[p.1]?==some p.2&&sc0.names.lookup p.2==some .cell&&scope.names.lookup p.2==some .free)&&decide ((cp.map (·.1)).Nodup)&&W.all λj=>decide (cp.length<=j)
theorem zA{sc0 scope:RU}{N0:List Str}{cp:List (Nat×Str)}{W:List Nat}(hch:Ey sc0 scope N0 cp W=true):(∀y∈scope.names,y.2=.cell->scope.names.lookup y.1=some .cell)/\(∀y∈scope.names,y.2=.local->scope.names.lookup y.1=some .local)/\(∀y∈scope.names,y.2=.free->scope.names.lookup y.1=some .free/\sc0.names.lookup y.1=some .cell)/\(∀p∈cp,N0[p.1]?=some p.2)/\(∀p∈cp,sc0.names.lookup p.2=some .cell/\scope.names.lookup p.2=some .free)/\(cp.map (·.1)).Nodup/\∀j∈W,cp.length<=j:=by
 simp only[Ey,Sr,Sk,decide_eq_true_eq]at hch;obtain⟨⟨⟨h1,h2⟩,h3⟩,h4⟩:=hch;refine⟨λy hy e=>?_,λy hy e=>?_,λy hy e=>?_,λp hp=>?_,λp hp=>?_,h3,h4⟩;·have:=(h1 y hy).1.2;rw[e]at this;simpa using this
 ·have:=(h1 y hy).1.1;rw[e]at this;simpa using this
 ·have:=(h1 y hy).2;rw[e]at this;simpa using this
 ·have:=(h2 p hp).1.1;simpa using this
 ·have a:=(h2 p hp).1.2;have c:=(h2 p hp).2;exact⟨by simpa using a,by simpa using c⟩
theorem eT{X:Cx}{K:Rj}{pos:Pos}{elt iter tg:Rl}{ifs:List Rl}{scope:RU}{fi:FI}{g:FG}{ft:FT}{fe:FE}{W:List Nat}(cp:List (Nat×Str))(tgN:List Str)(hKx:X.K=K)(hc:X.calm=true)(hi:PI X tg iter (fI K fi))(hg:∀C s0 H0 fp,PG (aY X scope cp tgN C s0 H0 fp) tg (fG K g W))(ht:∀C s0 H0 fp,Bs (aY X scope cp tgN C s0 H0 fp) ifs (fT K ft))(he:∀C s0 H0 fp,PE (aY X scope cp tgN C s0 H0 fp) elt (fE K fe))(hk:scope.kind=.function)(hch:Ey X.env.scope scope X.N cp W=true)(hs:∀x,Uh iter X.env x=pure x):PE X (.ListComp elt [⟨tg,iter,ifs,0⟩] scope pos) (fE K (cw cp tgN.length fi g ft fe)):=by subst hKx;obtain⟨h0,h1,h2,h3,h4,h5,h6⟩:=zA hch;exact(CT X.env.scope X.N cp tgN hc rfl rfl hi hg ht he hk h0 h1 h2 h3 h4 hs).mono λ_ _ _ h=>D' h5 h6 h
open PySem PySem.Spec PyProof.Rows PySem.W
structure Br (lt:Nat->Nat->Bool):Prop where
 irr:∀i,lt i i=false
 tr:∀{i j k},lt i j=false->lt j k=false->lt i k=false
 asy:∀{i j},lt i j=true->lt j i=false
abbrev gA(p:Array Nat)(i:Nat):Nat:=p.getD i 0
structure Os (n:Nat) (p:Array Nat):Prop where
 sz:p.size=n
 pm:p.Perm (List.toArray (TM n))
section
variable{lt:Nat->Nat->Bool}{n:Nat}(O:Br lt)
include O
end
open PySem PySem.Spec PyProof.Rows PySem.W
section
variable{prog:Rw}{w:Ro}{A:Rz}{E:Oq->Rg->Prop}{s:Rg}
end
open PySem PySem.Spec PyProof.Rows PySem.W
section
variable{X:Cx}{K:Rj}
def Mz(h:Ru)(v:Oq)(r:List Int):Prop:=∃(a:xM) (o:Obj) (xs:List Oq) (n:Nat),v=.ref a/\h.get? a=some o/\o.cls=.type "tuple"/\o.data=.seq xs.toArray n/\TX xs r
end
open PySem PySem.Spec PyProof.Rows PySem.W PySem.SeqAt
open PySem.AutoSeq1 (wpAny_loadPart')
open MeetsSeq MeetsSeq2 MeetsSeq3 SeqRoads2
open PySem PySem.Spec PyProof.Rows PySem.W PySem.SeqAt
section
variable{A:Rz}{s:Rg}
end
inductive Cm|i (k:Int)|r (f:List Int)|rs (R:List (List Int))
section
variable{A:Rz}{s:Rg}
end
open PySem PySem.Spec PyProof.Rows PySem.W PySem.SeqAt
section
variable{X:Cx}{K:Rj}
end
open PySem PySem.Spec PyProof.Rows PySem.W
section
variable{prog:Rw}{w:Ro}{A:Rz}{E:Oq->Rg->Prop}{s:Rg}{κ:SortKind}{it:Array Keyed}{N:Nat}{lt:Nat->Nat->Bool}{st:SortSt}
end
open PySem PySem.Spec PyProof.Rows PySem.W
section
variable{lt:Nat->Nat->Bool}(O:Br lt)
abbrev EW(lt:Nat->Nat->Bool)(x y:Nat):Prop:=lt y x=false
include O
end
structure Fn (lt:Nat->Nat->Bool) (A B r:List Nat):Prop where pm:r.Perm (A++B)so:r.Pairwise (EW lt)
structure Mg (lt:Nat->Nat->Bool) (A B o:List Nat) (ia ib:Nat):Prop where
 pm:o.Perm (A.take ia++B.take ib)so:o.Pairwise (EW lt)la:∀x∈o,∀y∈A.drop ia,EW lt x y
 lb:∀x∈o,∀y∈B.drop ib,EW lt x y
section
variable{lt:Nat->Nat->Bool}{A B o:List Nat}{ia ib:Nat}
end
section
variable{it:Array Keyed}
end
open PySem PySem.Spec PyProof.Rows PySem.W
section
variable{prog:Rw}{w:Ro}{A:Rz}{E:Oq->Rg->Prop}{s:Rg}{κ:SortKind}{it:Array Keyed}{N:Nat}{lt:Nat->Nat->Bool}{st:SortSt}{a b:Array Nat}
structure Ov (lt:Nat->Nat->Bool) (a b:Array Nat) (o:List Nat) (ia ib:Nat):Prop where
 m:Mg lt a.toList b.toList o ia ib
 ha:ia+1<a.size
 hb:ib<b.size
structure Oz (N:Nat) (lt:Nat->Nat->Bool) (a b:Array Nat):Prop where
 o:Br lt
 sa:a.toList.Pairwise (EW lt)sb:b.toList.Pairwise (EW lt)qa:∀j,j<a.size->gA a j<N
 qb:∀j,j<b.size->gA b j<N
 a0:0<a.size
 b0:0<b.size
 fst:lt (gA b 0) (gA a 0)=true
 lst:∀j,j<b.size->lt (gA b j) (gA a (a.size-1))=true
end
open PySem PySem.Spec PyProof.Rows PySem.W
structure Hg (lt:Nat->Nat->Bool) (A B o:List Nat) (na nb:Nat):Prop where
 pm:o.Perm (A.drop na++B.drop nb)so:o.Pairwise λx y=>EW lt y x
 la:∀x∈o,∀y∈A.take na,EW lt y x
 lb:∀x∈o,∀y∈B.take nb,EW lt y x
section
variable{lt:Nat->Nat->Bool}{A B o:List Nat}{na nb:Nat}
end
section
variable{it:Array Keyed}
end
section
variable{prog:Rw}{w:Ro}{A:Rz}{E:Oq->Rg->Prop}{s:Rg}{κ:SortKind}{it:Array Keyed}{N:Nat}{lt:Nat->Nat->Bool}{st:SortSt}{a b:Array Nat}
structure Ot (lt:Nat->Nat->Bool) (a b:Array Nat) (o:List Nat) (na nb:Nat):Prop where
 m:Hg lt a.toList b.toList o na nb
 ha:0<na
 hb:1<nb
 la:na<=a.size
 lb:nb<=b.size
end
open PySem PySem.Spec PyProof.Rows PySem.W
section
variable{prog:Rw}{w:Ro}{A:Rz}{E:Oq->Rg->Prop}{s:Rg}{κ:SortKind}{it:Array Keyed}{N:Nat}{lt:Nat->Nat->Bool}{st:SortSt}
end
open PySem PySem.Spec PyProof.Rows PySem.W
structure Ch (lo:Nat) (p p':Array Nat):Prop where
 sz:p'.size=p.size
 pm:p'.Perm p
 low:∀i,i<lo->gA p' i=gA p i
section
variable{lt:Nat->Nat->Bool}(O:Br lt){p:Array Nat}{lo m:Nat}
include O
end
section
variable{prog:Rw}{w:Ro}{A:Rz}{E:Oq->Rg->Prop}{s:Rg}{κ:SortKind}{it:Array Keyed}{N:Nat}{lt:Nat->Nat->Bool}{p:Array Nat}{pend:Array (Nat×Nat×Nat)}{g lo nrem:Nat}
end
open PySem PySem.Spec PyProof.Rows PySem.W
section
variable{prog:Rw}{w:Ro}{A:Rz}{E:Oq->Rg->Prop}{s:Rg}{κ:SortKind}{it:Array Keyed}{N:Nat}{lt:Nat->Nat->Bool}{p:Array Nat}{pend:Array (Nat×Nat×Nat)}{g lo:Nat}
end
open PySem PySem.Spec PyProof.Rows PySem.W
section
variable{prog:Rw}{w:Ro}{A:Rz}{E:Oq->Rg->Prop}{s:Rg}
end
section
variable{X:Cx}{K:Rj}
end
open PySem PySem.Spec PyProof.Rows PySem.W
section
variable{X:Cx}{K:Rj}
end
open PySem PySem.Spec PyProof.Rows PySem.W
section
variable{X:Cx}{K:Rj}
end
section
variable{X:Cx}{K:Rj}
variable{o a:Rl}{es:List Rl}{fo:FE}{fs:FA}{apos cpos:Pos}
end
theorem xD{X:Cx}{ix:Nat}{nm:Str}{posn poss:Pos}{elt iter tg:Rl}{ifs:List Rl}{scope:RU}{pos:Pos}{wi:TI}{g:TG}{tc:TT}{te:TE}(sc0:RU)(N0:List Str)(cp:List (Nat×Str))(tgN:List Str)(hc:X.calm=true)(hsc:X.env.scope=sc0)(hN0:X.N=N0)(hi:PI X tg iter wi)(hg:∀C s0 H0 fp,PG (aY X scope cp tgN C s0 H0 fp) tg g)(ht:∀C s0 H0 fp,Bs (aY X scope cp tgN C s0 H0 fp) ifs tc)(he:∀C s0 H0 fp,PE (aY X scope cp tgN C s0 H0 fp) elt te)(hk:scope.kind=.function)(hown:∀y∈scope.names,y.2=.cell->scope.names.lookup y.1=some .cell)(hnames:∀y∈scope.names,y.2=.local->scope.names.lookup y.1=some .local)(hfr:∀y∈scope.names,y.2=.free->scope.names.lookup y.1=some .free/\sc0.names.lookup y.1=some .cell)(hcp:∀p∈cp,N0[p.1]?=some p.2)(hcq:∀p∈cp,sc0.names.lookup p.2=some .cell/\scope.names.lookup p.2=some .free)(hNd:X.N.Nodup)(hix:X.N[ix]?=some nm)(hlc:X.env.scope.names.lookup nm=some .local)(hsw:Tx (.ListComp elt [⟨tg,iter,ifs,0⟩] scope pos) (some (.Name nm posn)) poss.line X.env=pure true)(hs:∀x,Uh iter X.env x=pure x:=by intro _;rfl):PS X (.Assign [.Name nm posn] (.ListComp elt [⟨tg,iter,ifs,0⟩] scope pos) poss) (JW (Ai cp tgN.length wi g tc te) (B0 ix)):=by intro pins s σ H D0 I h;rw[exec_Assign_Name_used _ _ _ _ hsw];refine Rq (wpAny_standAt (Rq ?_));unfold evalThenUse;exact Rq (wQ sc0 N0 cp tgN hc hsc hN0 hi hg ht he hk hown hnames hfr hcp hcq hs I h (BM hNd hix hlc))
section
variable{X:Cx}{K:Rj}{σ σ2:L2.St}{H0 F H F2 H2 F3:Hp}{e e2:En}
mutual
theorem DA.dropL(hd:∀a o,F2 a=some o->(∀xs,o≠.lst xs)->F3 a=some o):∀{d:Rh}{v:V},gy d=true->DA K F2 d v->DA K F3 d v
 |.none,_,_,h=>h|.bool _,_,_,h=>h|.int _,_,_,h=>h|.str _,_,_,h=>h|.tuple ds,v,f,h=>by
  obtain⟨a,xs,e1,h1,h2⟩:=cO.mp h;refine cO.mpr ⟨a,xs,e1,?_,aT.dropL hd (by simpa[gy]using f) h2⟩;rcases h1 with (h1|⟨o,h1⟩)|h1;·exact .inl (.inl (hd a _ h1 λxs z=>by cases z))
  ·exact .inl (.inr ⟨o,hd a _ h1 λxs z=>by cases z⟩)
  ·exact .inr h1|.list _,_,f,_=>by simp[gy]at f|.dict _,_,f,_=>by simp[gy]at f
theorem aT.dropL(hd:∀a o,F2 a=some o->(∀xs,o≠.lst xs)->F3 a=some o):∀{ds:List Rh}{vs:List V},bJ ds=true->aT K F2 ds vs->aT K F3 ds vs|[],_,_,h=>h|d::ds,vs,f,h=>by simp only[aT]at h⊢;obtain⟨x,r,e1,h1,h2⟩:=h;simp only[bJ,Sr]at f;exact⟨x,r,e1,DA.dropL hd f.1 h1,aT.dropL hd f.2 h2⟩
end
def zD:Sv->Bool|.d x=>gy x|.l xs=>bJ xs|.n yss=>yss.all bJ
end
section
variable{X:Cx}{K:Rj}{a b:Rl}{fa fb:FE}{pos p p1 p2 p3 pos':Pos}{x:Str}{i:Nat}
end
section
variable{X:Cx}{K:Rj}
end
section
variable{prog:Rw}{w:Ro}{A:Rz}{R:Result->Rg->Prop}
end
def Gn(l:xM)(wi:TI)(g:TG)(tc:TT)(tk tv:TE)(σ:L2.St)(H:Hp)(N:L2.St->Hp->Prop):Prop:=wi σ H λJ H1=>∃W:Nat->Nat->L2.St->Hp->Prop,(∃m,W 0 m σ H1)/\∀i m σ' H',W i m σ' H'->(J.stop i H'/\N σ' H')\/(J.go i H'/\∃N2:L2.St->Hp->Prop,(∀σ2 H2,N2 σ2 H2->∃m',m'<m/\W (i+1) m' σ2 H2)/\∀x H2,J.yld i H' x H2->g x σ' H2 λσ2 H3=>tc σ2 H3 λb H4=>if b=true then tk σ2 H4 λy H5=>tv σ2 H5 λv H6=>∃(kk:ko) (kvs:List (ko×V)),y=kV kk/\H6 l=some (.dK kvs)/\kvs.length<RH/\N2 σ2 (bg H6 l (.dK (Lg kvs kk v))) else N2 σ2 H4)
structure Mj (cp:List (Nat×Str)) (nT:Nat) (wi:TI) (g:TG) (tc:TT) (wi2:TI) (g2:TG) (tc2:TT) (tk tv:TE) (σ:L2.St) (H:Hp) (Q:VK):Prop where go:wi σ H λJ H1=>∀l,H1 l=none->∃W:Nat->Nat->L2.St->Hp->Prop,(∃m,W 0 m (jD cp nT σ) (bg H1 l (.dK [])))/\∀i m σ' H',W i m σ' H'->(J.stop i H'/\Q (.ref l) H')\/(J.go i H'/\∃N:L2.St->Hp->Prop,(∀σ2 H2,N σ2 H2->∃m',m'<m/\W (i+1) m' σ2 H2)/\∀x H2,J.yld i H' x H2->g x σ' H2 λσ2 H3=>tc σ2 H3 λb H4=>if b=true then Gn l wi2 g2 tc2 tk tv σ2 H4 N else N σ2 H4)
def aK(p:Int×ye):ko×V:=(Sum.inl p.1,p.2.toV)
def aD(p:Int×ye):Rh×Rh:=(.int p.1,p.2.toD)
section
variable{K:Rj}{F H F' H':Hp}{σ σ':L2.St}{e e':En}{nT:Nat}
inductive CD (K:Rj) (W:List Nat) (σ0:L2.St) (F1 H1:Hp) (e0:En) (l:xM) (P:Hp->En->List (Int×ye)->Prop) (σ':L2.St) (H':Hp):Prop|mk{F':Hp}{ei:En}{acc:List (Int×ye)}(R:bf K F' H' σ' ei) (X:d_ W σ0 F1 H1 e0 σ' F' H' ei) (fl:F' l=none) (hl:H' l=some (.dK (acc.map aK))) (pl:∀p∈acc,∀F,p.2.ok K F) (hc:P F' ei acc):CD K W σ0 F1 H1 e0 l P σ' H'
end
section
variable{X:Cx}{K:Rj}{pos:Pos}
end
section
variable{K:Rj}{F H F' H' F1 H1 F2 H2:Hp}{σ σ' σ1 σ2:L2.St}{e e' e1 e2:En}{i:Nat}{W W1 W2:List Nat}
theorem Fp.drop{j:Nat}{a:xM}(h:Fp σ (e.set i none) H j a):Fp σ e H j a:=by
 by_cases z:j=i
 ·subst z;rcases h with⟨xs,h,_⟩|⟨xss,_,_,h,_⟩
  ·rw[UE]at h;split at h;·split at h<;>cases h
   ·rename_i n;exact absurd rfl n
  ·rw[UE]at h;split at h;·split at h<;>cases h
   ·rename_i n;exact absurd rfl n
 ·unfold Fp at h⊢;rw[RI (RJ z)]at h;exact h
theorem nD{j:Nat}{s:Sv}(h:(e.set i none)[j]?=some (some s)):e[j]?=some (some s):=by
 by_cases z:i=j;·subst z;rw[UE]at h;rw[if_pos rfl]at h;split at h<;>cases h
 ·rwa[RI z]at h
theorem bi.drop{a:xM}(h:bi σ (e.set i none) H a):bi σ e H a:=let⟨j,q⟩:=h;⟨j,q.drop⟩
theorem bf.drop(R:bf K F H σ e)(i:Nat):bf K F H σ (e.set i none):=⟨R.sm,by rw[UB];exact R.len,λj x h=>R.dat j x (nD h),λj xs h=>R.own j xs (nD h),λj xss h=>R.nst j xss (nD h),λj k a h1 h2=>R.fp j k a h1.drop h2.drop⟩
structure Mx (K:Rj) (i:Nat) (F H:Hp) (σ:L2.St) (e:En):Prop where rel:bf K F H σ (e.set i none)dct:∃(l:xM) (m:List (Int×ye)),e[i]?=some (some (.d (.dict (m.map aD))))/\σ[i]?=some (some (.ref l))/\F l=none/\H l=some (.dK (m.map aK))/\∀p∈m,∀F,p.2.ok K F
structure NK (i:Nat) (W:List Nat) (σ:L2.St) (F H:Hp) (e:En) (σ':L2.St) (F' H':Hp) (e':En):Prop where
 sf:ao F F'
 dom:∀a,H' a=none->H a=none
 fr:∀a vs,F a=none->H a=some (.lst vs)->¬bi σ (e.set i none) H a->F' a=none
 lst:∀a vs,H a=some (.lst vs)->∃vs',H' a=some (.lst vs')tmp:∀a o,H a=some o->¬bi σ (e.set i none) H a->σ[i]?≠some (some (.ref a))->H' a=some o
 own:∀a,bi σ' (e'.set i none) H' a->bi σ (e.set i none) H a\/H a=none
 wr:∀j,j∉W->σ'[j]?=σ[j]?
 dd:σ'[i]?=σ[i]?
 fd:∀a (m:DI),F a=none->H a=some m.1->¬bi σ (e.set i none) H a->σ[i]?≠some (some (.ref a))->F' a=none
end
section
variable{X:Cx}{K:Rj}{i:Nat}{W W1 W2:List Nat}{st:Rx}{aB:List Rx}{f g:FS}{ft:FT}{pos:Pos}
inductive Mn (K:Rj) (i:Nat) (F1:Hp) (P:En->Prop) (G:L2.St->Hp->Hp->En->Prop) (σ:L2.St) (H:Hp):Prop|mk{F:Hp}{e:En}(R:Mx K i F H σ e) (sF:ao F1 F) (hf:P e) (q:G σ F H e):Mn K i F1 P G σ H
theorem eE{H:Hp}{σ:L2.St}{e:En}{v:Option V}{j:Nat}{a:xM}:Fp (σ.set i v) (e.set i none) H j a↔Fp σ (e.set i none) H j a:=by
 by_cases z:i=j
 ·subst z;have no:∀s:Sv,(e.set i none)[i]?≠some (some s):=λs h=>by rw[UE,if_pos rfl]at h;split at h<;>cases h
  constructor
  ·rintro(⟨xs,h,_⟩|⟨xss,_,_,h,_⟩);·exact absurd h (no _)
   ·exact absurd h (no _)
  ·rintro(⟨xs,h,_⟩|⟨xss,_,_,h,_⟩);·exact absurd h (no _)
   ·exact absurd h (no _)
 ·have e1:(σ.set i v)[j]?=σ[j]?:=RI z;unfold Fp;rw[e1]
theorem bf.poke{F H:Hp}{σ:L2.St}{e:En}(R:bf K F H σ (e.set i none))(v:Option V):bf K F H (σ.set i v) (e.set i none):=by
 have ne:∀(j:Nat) (s:Sv),(e.set i none)[j]?=some (some s)->i≠j:=λj s h z=>by subst z;rw[UE,if_pos rfl]at h;split at h<;>cases h
 refine⟨R.sm,by rw[UB];exact R.len,λj x h=>?_,λj xs h=>?_,λj xss h=>?_,λj k a h1 h2=>R.fp j k a (eE.mp h1) (eE.mp h2)⟩;·rw[RI (ne j _ h)];exact R.dat j x h
 ·rw[RI (ne j _ h)];exact R.own j xs h
 ·rw[RI (ne j _ h)];exact R.nst j xss h
end
section
variable{X:Cx}{C:xM}{x:Str}{p pos rp:Pos}{e:Rl}{t:TA}
end
structure Ol (P:Rw) (w:Ro) (fs:List xM) (H H':Hp) (h b0:Ru):Prop where
 keep:∀b o,h.get? b=some o->H b=none->b∉fs->b0.get? b=some o
 there:∀b o,h.get? b=some o->b∉fs->∃o',b0.get? b=some o'
 free:∀b o,h.get? b=some o->H b=none->H' b=none
 tups:∀b xs,H b=some (.tup xs)->H' b=some (.tup xs)frzs:∀b o u,H b=some (.frz o u)->H' b=some (.frz o u)tbls:∀b ps,H b=some (.tbl ps)->∃more,H' b=some (.tbl (ps++more))hok:p_ P w H' b0
section
variable{P:Rw}{w:Ro}{K:Rj}{mg:Str->Option Oq}{base:Ru}{N:List Str}{qual:Str}{scope:RU}{f:xM}{cd:Oq}{A:Rz}{outer:List Env}{s:Rg}{H:Hp}{E:XK}{C:xM}{pins:List (xM×Obj)}{σ:L2.St}{H1:Hp}{s1:Rg}
end
section
variable{X:Cx}{K:Rj}{st r:Rx}{aB:List Rx}{c:Rl}{pos:Pos}{f1:FS}{ft:FT}{W1:List Nat}{g:En->Prop}
end
open PySem PySem.Spec PyProof.Rows PySem.W
section
variable{prog:Rw}{w:Ro}{A:Rz}{E:Oq->Rg->Prop}{h:Ru}{g:Array GenState}{d:Drawn}{t:Nat}{os:OsState}{a D:xM}{o:Obj}{K:Frag}
structure NJ (K:Frag) (D:xM):Prop where
 ga:findIn K (.ref D) "__getattribute__"=some (some (.builtin "BaseException.__getattribute__"))gt:findIn K (.ref D) "__getattr__"=some none
 cl:findIn K (.ref D) "__class__"=some (some (.builtin "object.__class__"))mo:mroIn K D (.type "object")=some true
 mb:mroIn K D (.type "BaseException")=some true
 cs:(clsIn K D).isSome=true
end
def MP(C a:xM)(h:Ru):Prop:=∃o,h.get? a=some o/\o.cls=.ref C
def N5(C a:xM):HO:=.ext (MP C a)
section
variable{X:Cx}{pins:List (xM×Obj)}{σ:L2.St}{H H':Hp}{s:Rg}{n:Str}{j:Nat}
end
section
variable{X:Cx}{C Cb f:xM}{fd:RD}{ps:List Str}{k n k0 i j:Nat}{g:En->Prop}{fn B kx nx:Str}{p pos ep bp kp np ap hp tp:Pos}{e:Rl}{es:List Rl}{t:TA}
end
section
variable{X:Cx}{C:xM}{i:Nat}{x c:Str}{p p1 p2 pos:Pos}{v:V}{u:Oq}{b:Bool}
def M8(i:Nat)(C:xM)(b:Bool):TE:=λσ H Q=>∃a,σ[i]?=some (some (.ref a))/\H a=some (N5 C a)/\Q (.bl b) H
end
abbrev t3(C:xM)(b1 b2 b3:Bool):TE:=LM (p5 (M8 0 C b1) (p5 (M8 0 C b2) (p5 (M8 0 C b3) DZ)))
section
variable{K:Rj}
end
section
variable{X:Cx}{K:Rj}{C:xM}{x:Str}{p pos rp:Pos}{e:Rl}{fs:FA}
end
section
variable{P:Rw}{w:Ro}{K:Rj}{mg:Str->Option Oq}{base:Ru}{N ps:List Str}{qual fn:Str}{scope:RU}{fa f:xM}{cd:Oq}{A:Rz}{outer:List Env}{s:Rg}{H:Hp}{E:XK}{C:xM}{st:Rx}{fd:RD}{k n k0:Nat}{g:En->Prop}{p pos ep:Pos}{e:Rl}{es:List Rl}{fs:FA}
end
section
variable{X:Cx}{C:xM}{i:Nat}{x:Str}{p p1 p2 pos:Pos}{vs:List V}{us:List Oq}{b:Bool}{cs:List Rl}{ctx:Nat}
end
section
variable{K:Rj}{σ:L2.St}{H:Hp}
end
section
variable{X:Cx}
end
abbrev My(l:List Nat):Prop:=l.Pairwise (·<·)
section
variable{prog:Rw}{w:Ro}{A:Rz}{E:Oq->Rg->Prop}{s:Rg}
end
section
variable{prog:Rw}{w:Ro}{A:Rz}{E:Oq->Rg->Prop}{s:Rg}
end
def Od(t:SetTable):Nat->Nat|0=>0|i+1=>t.place.getD i 0+1
inductive MD (w:Ro) (a:xM) (es:Array (Int×Oq)) (ep:Nat) (t:SetTable) (h:Ru):List Oq->xM->Nat->Oq->Prop where|text (hb:w.params.followText "set-order"=true) (p:xM) (i:Nat) (hp:p=a):MD w a es ep t h ((pickOrder (w.params.setOrder a ep) es).toList.map (·.2)) p i (rawInt 0)|led (hb:w.params.followText "set-order"=false) (hd:(!t.plain&&es.size>1)=false) (hl:t.led=true) (hr:My t.place.toList) (p:xM) (i:Nat) (hp:p=a):MD w a es ep t h (es.toList.map (·.2)) p i (rawInt (Od t i))|drawn (hb:w.params.followText "set-order"=false) (p:xM) (i:Nat) (ys:List Nat) (hy:ys.Perm (TM es.size)) (hp:IsTup h p (ys.map fun(i:Nat)=>rawInt i).toArray):MD w a es ep t h (ys.filterMap λi=>es[i]?.map (·.2)) p i (.ref p)
section
variable{prog:Rw}{w:Ro}{A:Rz}{E:Oq->Rg->Prop}{s:Rg}
end
section
variable{prog:Rw}{w:Ro}{A:Rz}{E:Oq->Rg->Prop}{s:Rg}{I a p:xM}{es:Array (Int×Oq)}{ep:Nat}{t:SetTable}{L:List Oq}{i:Nat}
end
section
variable{prog:Rw}{w:Ro}{A:Rz}{E:Oq->Rg->Prop}{s:Rg}{a:xM}{es:Array (Int×Oq)}{ep:Nat}{t:SetTable}
end
section
variable{prog:Rw}{w:Ro}{A:Rz}{E:Oq->Rg->Prop}{s:Rg}
end
section
variable{prog:Rw}{w:Ro}{A:Rz}{E:Oq->Rg->Prop}{s:Rg}
end
section
variable{X:Cx}{K:Rj}{a:Rl}{fa:FE}{pos p pos2 p2:Pos}
end
section
variable{X:Cx}{K:Rj}{a b1 b2 b3:Rl}{fa:FE}{fs:FA}{pos p pos2 p2:Pos}
end
section
variable{prog:Rw}{w:Ro}{A:Rz}{E:Oq->Rg->Prop}{s:Rg}
end
section
variable{X:Cx}{K:Rj}{b1 b2 b3:Rl}{fs:FA}{pos p pos2 p2:Pos}
end
section
variable{X:Cx}{K:Rj}{es:List Rl}{k0:Nat}{tp:Pos}{a b:Rl}{fs:FA}{p pos:Pos}
end
def tH:Bool->Rj->Hp->xM->List V->Prop|true=>fX|false=>ff
def w_(b:Bool)(it l:xM)(i:Nat)(h:Ru):Prop:=match b with|true=>h.IsListIter it l i|false=>h.IsTupleIter it l i
def tI(b:Bool)(h:Ru)(l:xM)(xs:Array Oq):Prop:=match b with|true=>h.IsList l xs|false=>h.IsTuple l xs
def oB(b:Bool)(l:xM):Obj:={cls:=.type (match b with|true=>"list_iterator"|false=>"tuple_iterator"),data:=.fields #[.ref l,.int 0 0]}
theorem km{prog:Rw}{w:Ro}:∀(b:Bool) (it l:xM),Sc prog w it l (w_ b it l) λh xs=>tI b h l xs|true,it,l=>Gf it l|false,it,l=>JQ it l
theorem vq{b:Bool}{it l:xM}{h:Ru}(e:h.get? it=some (oB b l)):w_ b it l 0 h:=match b,e with|true,e=>⟨_,e,rfl,rfl⟩|false,e=>⟨_,e,rfl,rfl⟩
theorem qG{b:Bool}{h:Ru}{l:xM}{xs:Array Oq}(o:Obj)(t:tI b h l xs):tI b (h.push o) l xs:=match b,t with|true,t=>Heap.IsList.push t o|false,t=>Heap.IsTuple.push t o
theorem yB{prog:Rw}{w:Ro}{A:Rz}{E:Oq->Rg->Prop}{s:Rg}{l:xM}{xs:Array Oq}{Q:Oq->Rg->Prop}{b:Bool}(t:tI b s.heap l xs)(h:Q (.ref s.heap.objs.size) {s with heap:=s.heap.push (oB b l)}):Rr (Ry prog w) A (pyIter (.ref l)) Q E s:=match b,t,h with|true,t,h=>wpAny_pyIter_list t h|false,t,h=>wpAny_pyIter_tuple t h
section
variable{X:Cx}{pins:List (xM×Obj)}{σ:L2.St}{H:Hp}{s:Rg}
theorem Eg(I:aI X pins σ H s){c:Bool}{b l:xM}{xs:List V}(f:ky X pins H b)(q:tH c X.K H l xs):l≠b:=match c,q with|true,q=>Au I f q|false,q=>Bv I f q
theorem vm(I:aI X pins σ H s){c:Bool}{l:xM}{xs:List V}(q:tH c X.K H l xs):∃its,aW xs its/\tI c s.heap l its.toArray:=match c,q with|true,q=>let⟨its,v,p,_⟩:=I.list q;⟨its,v,p.isList⟩|false,q=>let⟨its,v,p,_⟩:=I.tuple q;⟨its,v,p⟩
theorem Ib(I:aI X pins σ H s){c:Bool}{l:xM}{xs ys:List V}(p:tH c X.K H l xs)(q:tH c X.K H l ys):xs=ys:=match c,p,q with|true,p,q=>I.list_inj p q|false,p,q=>I.tuple_inj p q
end
section
variable{prog:Rw}{w:Ro}{A:Rz}{E:Oq->Rg->Prop}{s:Rg}
end
section
variable{X:Cx}{K:Rj}{es:List Rl}{k0:Nat}{tp:Pos}{a b:Rl}{fs:FA}{p pos:Pos}
end
abbrev eA(h:Ru)(T:xM)(a b c:Oq):Prop:=h.get? T=some {cls:=.type "tuple",data:=.seq #[a,b,c]}
theorem sG(a b c:Oq):checkTypeCall "zip" ⟨[a,b,c],[]⟩=pure ():=by kernel_rfl
theorem sY(a b c:Oq):checkBuiltinCall "zip.__new__" ⟨[.type "zip",a,b,c],[]⟩=pure ():=by kernel_rfl
theorem mn(a b c d:Oq):argsOk "object.__init__" ⟨[a,b,c,d],[]⟩:=by unfold argsOk;rw[signature?_of (id:="object.__init__") (n:=['_','_','t','i','n','i','_','_']) (o:=['t','c','e','j','b','o']) (by kernel_rfl) PySem.F.owner_object];kernel_rfl
structure uM (z TI TO i1 i2 i3 l1 l2 l3:xM):Prop where
 nO:TO≠z
 nz:i1≠z/\i2≠z/\i3≠z
 nT:TO≠i1/\TO≠i2/\TO≠i3
 ni:i1≠i2/\i1≠i3/\i2≠i3
 l:∀a,a=l1\/a=l2\/a=l3->a≠z/\a≠TO/\a≠i1/\a≠i2/\a≠i3
section
variable{prog:Rw}{w:Ro}{A:Rz}{E:Oq->Rg->Prop}{s:Rg}{z TI TO i1 i2 i3 l1 l2 l3:xM}{k:Nat}{xs ys zs:Array Oq}{a b c:Oq}
theorem oH{T:xM}{a b c x:Oq}{k:Nat}{Q:Unit->Rg->Prop}(hT:eA s.heap T a b c)(h:∀h',h'.get? T=some {cls:=.type "tuple",data:=.seq ((#[a,b,c]:Array Oq).setIfInBounds k x)}->Ud T s.heap h'->Q () {s with heap:=h'}):Rr (Ry prog w) A (updateSeq T (·.setIfInBounds k x)) Q E s:=by refine wpAny_updateSeq hT rfl (h _ ?_ (Wb ..));rw[Heap.get?_update_self _ hT rfl];simp[Uq]
end
section
variable{K:Rj}{σ:L2.St}{F H:Hp}
end
section
variable{X:Cx}{K:Rj}{es:List Rl}{k0:Nat}{tp:Pos}{a b c:Rl}{fs:FA}{p pos:Pos}
end
section
variable{X:Cx}{K:Rj}{es:List Rl}{k0:Nat}{tp:Pos}{a b:Rl}{fs:FA}{p pos:Pos}
end
section
variable{X:Cx}{K:Rj}{es:List Rl}{k0:Nat}{tp:Pos}{a:Rl}{ta:TA}{p pos:Pos}
end
section
variable{X:Cx}{K:Rj}{es:List Rl}{k0:Nat}{tp:Pos}{a:Rl}{fs:FA}{p pos:Pos}
end
section
variable(P:Rw)(w:Ro)
end
section
variable{P:Rw}{w:Ro}{H H':Hp}{h h':Ru}{a:xM}{o:HO}
end
section
variable{P:Rw}{w:Ro}{H:Hp}{h h':Ru}{x e:xM}{o':HO}
end
section
variable{fs fs' ex ex':List xM}{H H1 H2:Hp}{h h1 h2 h':Ru}{a x e:xM}{o:HO}
end
section
variable{X:Cx}{pins:List (xM×Obj)}{σ:List (Option V)}{H H':Hp}{s:Rg}{h':Ru}
end
section
variable{X:Cx}
variable{a b:Rl}{ta tb:TE}{pos:Pos}
variable{tA tB':TT}{aB:List Rl}
end
section
variable{X:Cx}{pins:List (xM×Obj)}{σ:St}{H:Hp}{s:Rg}{a:xM}{xs ys:List V}
end
section
variable{X:Cx}{pins:List (xM×Obj)}{σ:St}{H:Hp}{s:Rg}{E:Oq->Rg->Prop}
end
section
variable{X:Cx}{st:Rx}{aB:List Rx}{t u:TS}{e:Rl}{te:TE}{pos:Pos}
end
section
variable{X:Cx}{pos:Pos}
end
section
variable{X:Cx}{pos:Pos}
end
section
variable{X:Cx}{tg:Rl}
end
section
variable{X:Cx}{a b c:Rl}{ta tb tc:TE}{pos:Pos}
end
section
variable{X:Cx}{a b c:Rl}{ta tb tc:TE}{pos:Pos}
end
section
variable{prog:Rw}{w:Ro}{A:Rz}{E:Oq->Rg->Prop}{s:Rg}{K:Rj}{x dx C f:xM}{mA:Str->Option Oq}{name:Str}{v:Oq}
end
section
variable{P:Rw}{w:Ro}{H H':Hp}{h h':Ru}{a C dx:xM}{fs fs':List (Str×V)}
end
section
variable{X:Cx}{pins:List (xM×Obj)}{σ:St}{H:Hp}{s:Rg}{a C dx:xM}{fs:List (Str×V)}{f:Str}{v:V}{A:Rz}{E:Oq->Rg->Prop}
end
section
variable{X:Cx}{o e value:Rl}{f:Str}{pos pos' tpos:Pos}{ta tv:TE}
end
section
variable{X:Cx}{pins:List (xM×Obj)}{σ:St}{H:Hp}{s:Rg}{A:Rz}{E:Oq->Rg->Prop}{Q:Oq->Rg->Prop}{c:Oq}{b:Bool}
end
section
variable{X:Cx}{e:Rl}{es:List Rl}{te:TE}{t:TA}{pos:Pos}
end
section
variable{X:Cx}{pins:List (xM×Obj)}{σ:St}{H:Hp}{s s':Rg}
end
section
variable{X:Cx}{CX:wA}{k:Nat}{f C:xM}{fd:RD}{ps:List Str}{sp:Sp}{dvs:List V}{ds:List Oq}{E:XK}{x m:Str}{p pos apos:Pos}{e o:Rl}{es:List Rl}{ta:TE}{t:TA}
end
section
variable{X:Cx}{CX:wA}{k:Nat}{f C:xM}{fd:RD}{ps ks:List Str}{sp:Sp}{E:XK}{x m:Str}{p pos apos kpos:Pos}{e o:Rl}{es:List Rl}{kws:List SL}{te ta:TE}{t tk:TA}{nm:Option Str}
variable{g:List Oq->List Oq->List Oq}{gV:List V->List V->List V}
end
section
variable{X:Cx}{x:Str}{p pos:Pos}{e:Rl}{es:List Rl}{t:TA}{id T:String}{r:List V->Hp->VK->Prop}
end
section
variable{κ:Type}[DecidableEq κ]
end
section
variable{P:Rw}{w:Ro}{H:Hp}{h:Ru}{a:xM}
end
section
variable{X:Cx}{pins:List (xM×Obj)}{σ:St}{H:Hp}{s:Rg}{a:xM}{y v:V}{u r:Oq}{o:Option V}{A:Rz}{E:Oq->Rg->Prop}
end
section
variable{X:Cx}{pins:List (xM×Obj)}{σ:St}{H:Hp}{s:Rg}{a:xM}{kvs:List (ko×V)}{k:ko}{u:Oq}{A:Rz}{E:Oq->Rg->Prop}
end
section
variable{X:Cx}{o i e value:Rl}{pos pos' tpos:Pos}{td ty tv:TE}
end
section
variable{X:Cx}{pos:Pos}
end
structure M2 (X:Cx) (o:Rl) (m:Str) (apos:Pos) (e f:Rl) (cpos:Pos):Prop where
 base:SU o m X.env (RC o X.env)=RC o X.env
 few:((RP cpos (RB [e,f] X.env)).all (λx=>!x.1)&&(Tz cpos (TB [] X.env)).all (λx=>x.1.isSome)&&decide (([e,f]:List Rl).length+([]:List SL).length+(if ([]:List SL).isEmpty then 0 else 1)<30))=true
 line:(apos.endLine==cpos.line)=true
 trees:RP cpos (RB [e,f] X.env)=[(false,RC e X.env),(false,RC f X.env)]
section
variable{X:Cx}{pins:List (xM×Obj)}{σ:St}{H:Hp}{s:Rg}{a:xM}{y d:V}{u r:Oq}{o:Option V}{A:Rz}{E:Oq->Rg->Prop}
end
section
variable{X:Cx}{o e f:Rl}{apos cpos:Pos}{td ty tx:TE}
end
section
variable{X:Cx}{pins:List (xM×Obj)}{σ:St}{H:Hp}{s:Rg}{a:xM}{kvs:List (ko×V)}{A:Rz}{E:Oq->Rg->Prop}
end
section
variable{X:Cx}{pins:List (xM×Obj)}{σ:St}{H:Hp}{s:Rg}{a:xM}{y:V}{u:Oq}{A:Rz}{E:Oq->Rg->Prop}
end
end L2
namespace Att
open PySem PySem.W PySem.Calls PyProof.Rows
section
variable{prog:Rw}{w:Ro}{A:Rz}{E:Oq->Rg->Prop}{s:Rg}{K:Frag}
end
end Att
namespace L2
open PySem PySem.Spec PyProof.Rows
section
variable{P:Rw}{w:Ro}{K:Rj}{mg:Str->Option Oq}{base:Ru}
end
section
variable{X:Cx}
end
section
variable{κ:Type}[DecidableEq κ]
end
section
variable{prog:Rw}{w:Ro}{A:Rz}{R:Result->Rg->Prop}
end
structure Mi (cp:List (Nat×Str)) (nT:Nat) (wi:TI) (g:TG) (tk tv:TE) (σ:L2.St) (H:Hp) (Q:VK):Prop where go:wi σ H λJ H1=>∀l,H1 l=none->∃W:Nat->Nat->L2.St->Hp->Prop,(∃m,W 0 m (jD cp nT σ) (bg H1 l (.dK [])))/\∀i m σ' H',W i m σ' H'->(J.stop i H'/\Q (.ref l) H')\/(J.go i H'/\∃N:L2.St->Hp->Prop,(∀σ2 H2,N σ2 H2->∃m',m'<m/\W (i+1) m' σ2 H2)/\∀x H2,J.yld i H' x H2->g x σ' H2 λσ2 H4=>tk σ2 H4 λy H5=>tv σ2 H5 λv H6=>∃(kk:ko) (kvs:List (ko×V)),y=kV kk/\H6 l=some (.dK kvs)/\kvs.length<RH/\N σ2 (bg H6 l (.dK (Lg kvs kk v))))
abbrev L9:=Int×Int×Int
def pD(p:L9):Rh×Rh:=(.int p.1,.tuple [.int p.2.1,.int p.2.2])
section
variable{K:Rj}{F H F' H':Hp}{σ σ':L2.St}{e e':En}{cp:List (Nat×Str)}{nT:Nat}
def NY(m:List (Int×ye))(acc:List L9):Prop:=m.map aD=acc.map pD
inductive NH (K:Rj) (W:List Nat) (σ0:L2.St) (F1 H1:Hp) (e0:En) (l:xM) (P:Hp->En->List L9->Prop) (σ':L2.St) (H':Hp):Prop|mk{F':Hp}{ei:En}{acc:List L9}{m:List (Int×ye)}(R:bf K F' H' σ' ei) (X:d_ W σ0 F1 H1 e0 σ' F' H' ei) (fl:F' l=none) (hl:H' l=some (.dK (m.map aK))) (ok:∀p∈m,p.2.ok K F') (ha:NY m acc) (hc:P F' ei acc):NH K W σ0 F1 H1 e0 l P σ' H'
end
section
variable{X:Cx}{K:Rj}{pos:Pos}
end
section
variable{X:Cx}{K:Rj}{pos:Pos}
end
section
variable{X:Cx}{K:Rj}{g:En->Prop}{x:Str}{e a:Rl}{es:List Rl}{p pos:Pos}{T:String}
end
section
variable{P:Rw}{w:Ro}{K:Rj}{mg:Str->Option Oq}{base:Ru}{N ps:List Str}{qual fn:Str}{scope:RU}{fa f:xM}{cd:Oq}{A:Rz}{outer:List Env}{s:Rg}{H:Hp}{E:XK}{C:xM}{st:Rx}{fd:RD}{k n k0:Nat}{g:En->Prop}{p pos:Pos}{e:Rl}{es:List Rl}{fs:FA}
end
section
variable{X:Cx}{K:Rj}{σ:L2.St}{F H:Hp}{e e':En}
end
def sm(f:Nat->Int):Nat->Int|0=>0|n+1=>sm f n+f n
theorem xU{f g:Nat->Int}:∀{n:Nat},(∀j,j<n->f j=g j)->sm f n=sm g n|0,_=>rfl|n+1,h=>by rw[sm,sm,xU (n:=n) λj hj=>h j (by lia),h n (by lia)]
theorem Af{f:Nat->Int}{n:Nat}(h:∀j,j<n->f j=0):sm f n=0:=by induction n with|zero=>rfl|succ n ih=>rw[sm,ih λj hj=>h j (by lia),h n (by lia)];rfl
theorem Hn{f:Nat->Int}{p:Nat}:∀{n:Nat},p<n->sm f n=f p+sm (λj=>if j=p then 0 else f j) n
 |0,h=>by lia|n+1,h=>by
  rw[sm,sm];by_cases e:n=p;·subst e;rw[if_pos rfl,xU (f:=λj=>if j=n then 0 else f j) (g:=f) λj hj=>if_neg (by lia)];lia
  ·rw[if_neg e,Hn (n:=n) (p:=p) (by lia)];lia
theorem DU{f:Nat->Int}{p n:Nat}(hp:p<n)(h:∀j,j<n->j≠p->f j=0):sm f n=f p:=by rw[Hn hp,Af λj hj=>by by_cases e:j=p<;>simp[e];exact h j hj e];lia
def sg:Nat->Int|0=>1|n+1=>-sg n
def sk(j a:Nat):Nat:=if a<j then a else a+1
def det:Nat->(Nat->Nat->Int)->Int|0,_=>1|k+1,c=>sm (λj=>sg j*c j 0*det k (λa i=>c (sk j a) (i+1))) (k+1)
def pu(c:Nat->Nat->Int)(p:Nat)(v:Nat->Int):Nat->Nat->Int:=λa=>if a=p then v else c a
def sq(f:Nat->Rat):Nat->Rat|0=>0|n+1=>sq f n+f n
theorem su{f g:Nat->Rat}:∀{n:Nat},(∀j,j<n->f j=g j)->sq f n=sq g n|0,_=>rfl|n+1,h=>by rw[sq,sq,su (n:=n) λj hj=>h j (by lia),h n (by lia)]
structure Tb where
 T:Nat->Nat->Int
 d:Int
 out:Nat->Nat
 win:Nat->Nat
def Oc(s:Tb)(r c:Nat):Tb where T:=λi j=>if i=r then(if j=c then s.d else s.T r j) else if j=c then-s.T i c else(s.T i j*s.T r c-s.T i c*s.T r j)/s.d;d:=s.T r c;out:=λj=>if j=c then s.win r else s.out j;win:=λk=>if k=r then s.out c else s.win k
section
variable(n m:Nat)(C:Nat->Nat->Int)
def Mv(x:Nat->Rat):Prop:=∀i,i<=m->sq (λj=>(C j i:Rat)*x j) n+x (n+i)=(C (n+m+1) i:Rat)
structure Iv (s:Tb):Prop where
 dp:0<s.d
 cl:∀j,j<=n->∀i,s.d*C (s.out j) i=sm (λk=>s.T k j*C (s.win k) i) (m+1)dt:det (m+1) (λk=>C (s.win k))=s.d
 fe:∀i,i<m->0<=s.T i n
 wm:s.win m=n+m
 on:s.out n=n+m+1
 oi:∀j,j<n->∀j',j'<n->s.out j=s.out j'->j=j'
 wi:∀k,k<=m->∀k',k'<=m->s.win k=s.win k'->k=k'
 dj:∀j,j<n->∀k,k<=m->s.out j≠s.win k
 cv:∀v,v<=n+m->(∃j,j<n/\s.out j=v)\/(∃k,k<=m/\s.win k=v)og:∀j,j<n->s.out j<=n+m
 wg:∀k,k<=m->s.win k<=n+m
 eq:∀x,Mv n m C x↔∀k,k<=m->(s.d:Rat)*x (s.win k)+sq (λj=>(s.T k j:Rat)*x (s.out j)) n=(s.T k n:Rat)
end
section
variable{n m:Nat}{C:Nat->Nat->Int}{s:Tb}(I:Iv n m C s){r c:Nat}(hr:r<m)(hc:c<n)(hp:0<s.T r c)
include I hr hc hp
end
section
variable(n m:Nat)
structure NI (s:Tb) (c:Nat):Prop where
 hc:c<n
 neg:s.T m c<0
 first:∀j,j<n->s.T m j<0->s.out c<=s.out j
structure NO (s:Tb) (c r:Nat):Prop where
 hr:r<m
 pos:0<s.T r c
 rat:∀i,i<m->0<s.T i c->s.T r n*s.T i c<=s.T i n*s.T r c
 first:∀i,i<m->0<s.T i c->s.T r n*s.T i c=s.T i n*s.T r c->s.win r<=s.win i
structure NR (C:Nat->Nat->Int) (st:Nat->Tb) (cs rs:Nat->Nat) (K:Nat):Prop where iv:∀k,k<=K->Iv n m C (st k)en:∀k,k<K->NI n m (st k) (cs k)le:∀k,k<K->NO n m (st k) (cs k) (rs k)nx:∀k,k<K->st (k+1)=Oc (st k) (rs k) (cs k)
end
section
variable{n m:Nat}{C:Nat->Nat->Int}
variable{st:Nat->Tb}{cs rs:Nat->Nat}{K:Nat}(W:NR n m C st cs rs K)
include W
end
section
variable{n m:Nat}{C:Nat->Nat->Int}
def Bg(n m:Nat)(C:Nat->Nat->Int):Tb where T:=λi j=>if j=n then C (n+m+1) i else C j i;d:=1;out:=λj=>if j=n then n+m+1 else j;win:=λk=>n+k
theorem Mc(he:∀k,k<=m->∀i,C (n+k) i=if i=k then 1 else 0)(hz:∀a i,m<i->C a i=0)(hb:∀i,i<m->0<=C (n+m+1) i):Iv n m C (Bg n m C):=by
 have hid:∀(k:Nat) (c:Nat->Nat->Int),(∀a,a<k->∀i,c a i=if i=a then 1 else 0)->L2.det k c=1:=by intro k;induction k with|zero=>intro c _;rfl|succ k ih=>
   intro c h;rw[L2.det,DU (p:=0) (by lia)]
   ·rw[h 0 (by lia) 0,ih];·rfl
    ·intro a ha i;rw[show sk 0 a=a+1 by simp[sk],h (a+1) (by lia)];simp
   ·intro j hj e;rw[h j hj 0,if_neg (by lia)];simp
 refine⟨Int.one_pos,?_,?_,?_,rfl,?_,?_,?_,?_,?_,?_,?_,?_⟩
 ·intro j hj i;have key:∀(u:Nat->Int),(∀i,m<i->u i=0)->(1:Int)*u i=sm (λk=>u k*C (n+k) i) (m+1):=by
   intro u hu;by_cases e:i<=m
   ·rw[DU (p:=i) (by lia) λk hk z=>?_];·rw[he i e i,if_pos rfl];lia
    ·rw[he k (by lia) i,if_neg (λy=>z y.symm)];simp
   ·rw[hu i (by lia),Af λk hk=>?_];·rfl
    ·rw[he k (by lia) i,if_neg (by lia)];simp
  simp only[Bg];by_cases e:j=n;·simp only[if_pos e];exact key _ λi hi=>hz _ i hi
  ·simp only[if_neg e];exact key _ λi hi=>hz _ i hi
 ·exact hid (m+1) _ λa ha i=>he a (by lia) i
 ·intro i hi;simp only[Bg,if_true];exact hb i hi
 ·simp[Bg]
 ·intro j hj j' hj' e;simp only[Bg]at e;rw[if_neg (by lia),if_neg (by lia)]at e;exact e
 ·intro k hk k' hk' e;simp only[Bg]at e;lia
 ·intro j hj k hk e;simp only[Bg]at e;rw[if_neg (by lia)]at e;lia
 ·intro v hv;by_cases e:v<n;·exact .inl ⟨v,e,by simp only[Bg];rw[if_neg (by lia)]⟩
  ·exact .inr ⟨v-n,by lia,by simp only[Bg];lia⟩
 ·intro j hj;simp only[Bg];rw[if_neg (by lia)];lia
 ·intro k hk;simp only[Bg];lia
 ·intro x;refine⟨λh k hk=>?_,λh k hk=>?_⟩;·have:=h k hk;simp only[Bg,if_true];rw[su (g:=λj=>(C j k:Rat)*x j) λj hj=>by rw[if_neg (by lia),if_neg (by lia)]];simp only[Rat.intCast_one];grind
  ·have:=h k hk;simp only[Bg,if_true]at this;rw[su (g:=λj=>(C j k:Rat)*x j) λj hj=>by rw[if_neg (by lia),if_neg (by lia)]]at this;simp only[Rat.intCast_one]at this;grind
end
open PySem PySem.Spec PyProof.Rows PySem.W
section
variable{prog:Rw}{w:Ro}{A:Rz}{R:Result->Rg->Prop}
structure NQ (I l S:xM) (vs:List Oq) (rs:List (List Int)) (j:Nat) (arr:Array Oq) (c:Nat) (h:Ru):Prop where
 it:h.IsListIter I l j
 ls:h.IsList l vs.toArray
 ro:∀(i:Nat) (r:List Int),rs[i]?=some r->∃v,vs[i]?=some v/\Mz h v r
 sc:h.get? S=some {cls:=.type "list",dict:=none,data:=.seq arr c,slots:=#[]}
end
section
variable{X:Cx}{K:Rj}
end
section
variable{X:Cx}{K:Rj}{x y:Str}{p p2 pos:Pos}{i j:Nat}{a c:Rl}
end
section
variable{X:Cx}{K:Rj}{pos p2:Pos}
end
structure Oy (n m:Nat) (s:Tb):Prop where
 d:Bt 1900 s.d
 t:∀i,i<=m->∀j,j<=n->Bt 1900 (s.T i j)
def N9(n m:Nat)(g:Nat->Int)(A:Nat->Nat->Int)(b:Nat->Int)(v i:Nat):Int:=if v<n then(if i<m then A i v else if i=m then-g v else 0) else if v<=n+m then(if i=v-n then 1 else 0) else if v=n+m+1 then(if i<m then b i else 0) else 0
section
variable(n m:Nat)(g:Nat->Int)(A:Nat->Nat->Int)(b:Nat->Int)
end
section
variable{n m:Nat}{g:Nat->Int}{A:Nat->Nat->Int}{b:Nat->Int}
end
abbrev TL:=l6×Rat
def rs(f:TL->Rat):List TL->Rat|[]=>0|p::P=>f p+rs f P
def Ia(th:Int)(t:l6):Bool:=t.one==th||t.other==th
def KP(th:Int)(p:TL):Rat:=if Ia th p.1=true then(p.1.top:Rat)*p.2 else 0
def Kr(th:Int)(p:TL):Rat:=if Ia th p.1=true then(p.1.bot:Rat)*p.2 else 0
def Kp(p:TL):Rat:=(p.1.bot:Rat)*p.2
def G2(p:TL):Rat:=((p.1.top*p.1.worth:Int):Rat)*p.2
structure GK (W:aO) (P:List TL):Prop where
 ties:P.map (·.1)=W.ties
 nn:∀p∈P,0<=p.2
 once:∀p∈P,Kp p<=1
 keep:∀k:Nat,(k:Int)<W.things->rs (KP k) P<=1
 bear:∀k:Nat,(k:Int)<W.things->rs (Kr k) P<=(W.pat.getD k 0:Rat)ask:rs Kp P<=(W.asks:Rat)
structure On (W:aO) (V:Rat):Prop where
 ex:∃P,GK W P/\rs G2 P=V
 top:∀P,GK W P->rs G2 P<=V
structure Up (t t':l6) (r:Rat):Prop where
 one:t'.one=t.one
 other:t'.other=t.other
 r0:0<=r
 top:(t'.top:Rat)*r<=(t.top:Rat)bot:(t'.bot:Rat)*r<=(t.bot:Rat)gain:((t.top*t.worth:Int):Rat)<=((t'.top*t'.worth:Int):Rat)*r
def tj(W:aO)(j:Nat):l6:=W.ties.getD j ⟨0,0,0,0,0⟩
def wT(W:aO):Nat:=W.things.toNat
section
variable{W:aO}
end
section
variable{n m:Nat}{g:Nat->Int}{A:Nat->Nat->Int}{b:Nat->Int}
end
def hG(W:aO)(j:Nat):Int:=(tj W j).worth
def hA(W:aO)(i j:Nat):Int:=if Ia (i:Int) (tj W j)=true then 1 else 0
def hO(_:Nat):Int:=1
abbrev hC(W:aO):Nat->Nat->Int:=N9 W.ties.length (wT W) (hG W) (hA W) hO
def hS(c:Int->Bool)(i:Nat):Int:=if c (i:Int)=true then 1 else-1
section
variable{W:aO}(ok:W.Ok){c:Int->Bool}(hc:∀t∈W.ties,c t.one≠c t.other)
include ok hc
end
structure NN (W:aO) (X Y:Nat->Int):Prop where
 x01:∀j,j<W.ties.length->X j=0\/X j=1
 one:∀i,i<wT W->sm (λj=>hA W i j*X j) W.ties.length<=1
 y0:∀i,0<=Y i
 paid:∀j,j<W.ties.length->hG W j<=Y (tj W j).one.toNat+Y (tj W j).other.toNat
 eq:sm Y (wT W)=sm (λj=>hG W j*X j) W.ties.length
inductive Ob where/--a desk: its attributes -/|dk (fs:List (Str×Rh))/--a tuple of two own lists -/|st (xs ys:List Rh)
def gY(K:Rj)(F:Hp):List (Str×Rh)->List (Str×V)->Prop|[],gs=>gs=[]|p::r,gs=>∃v hs,gs=(p.1,v)::hs/\DA K F p.2 v/\gY K F r hs
theorem gY.mono{K:Rj}{F F':Hp}(h:ao F F'):∀{fs:List (Str×Rh)}{gs:List (Str×V)},gY K F fs gs->gY K F' fs gs|[],_,q=>q|_::_,_,⟨v,hs,e,a,b⟩=>⟨v,hs,e,a.mono h,gY.mono h b⟩
theorem gY.len{K:Rj}{F:Hp}:∀{fs:List (Str×Rh)}{gs:List (Str×V)},gY K F fs gs->gs.length=fs.length|[],_,q=>by rw[show _=[]from q];rfl|_::_,_,⟨v,hs,e,a,b⟩=>by rw[e];simp[gY.len b]
theorem gY.get{K:Rj}{F:Hp}{f:Str}{x:Rh}:∀{fs:List (Str×Rh)}{gs:List (Str×V)},gY K F fs gs->fs.lookup f=some x->∃v,gs.lookup f=some v/\DA K F x v|[],_,_,h=>by cases h|(g,y)::r,_,⟨v,hs,e,a,b⟩,h=>by subst e;rw[Sm]at h⊢;cases c:f==g with|true=>rw[c]at h;cases h;exact⟨v,rfl,a⟩|false=>rw[c]at h;exact gY.get b h
def nZ(f:Str)(x:Rh):List (Str×Rh)->List (Str×Rh)|[]=>[(f,x)]|(g,y)::r=>if g=f then(g,x)::r else(g,y)::nZ f x r
theorem gY.put{K:Rj}{F:Hp}{f:Str}{x:Rh}{v:V}(hx:DA K F x v):∀{fs:List (Str×Rh)}{gs:List (Str×V)},gY K F fs gs->gY K F (nZ f x fs) (jw f v gs)
 |[],_,q=>by rw[show _=[]from q];exact⟨v,[],rfl,hx,rfl⟩|(g,y)::r,_,⟨u,hs,e,a,b⟩=>by
  subst e;by_cases c:g=f;·simp only[nZ,jw,if_pos c];exact⟨v,hs,rfl,hx,b⟩
  ·simp only[nZ,jw,if_neg c];exact⟨u,_,rfl,a,gY.put hx b⟩
theorem gY.none{K:Rj}{F:Hp}{f:Str}:∀{fs:List (Str×Rh)}{gs:List (Str×V)},gY K F fs gs->fs.lookup f=none->gs.lookup f=none|[],_,q,_=>by rw[show _=[]from q];rfl|(g,y)::r,_,⟨v,hs,e,a,b⟩,h=>by subst e;rw[Sm]at h⊢;cases c:f==g with|true=>rw[c]at h;cases h|false=>rw[c]at h;exact gY.none b h
def fm(K:Rj)(C:xM)(F H:Hp):Ob->V->List xM->Prop|.dk fs,v,as=>∃p dx gs,v=.ref p/\as=[p]/\F p=none/\H p=some (.ins C dx gs)/\gY K F fs gs|.st xs ys,v,as=>∃t l m vs us,v=.ref t/\as=[l,m]/\l≠m/\ff K F t [.ref l,.ref m]/\F l=none/\F m=none/\H l=some (.lst vs)/\H m=some (.lst us)/\aT K F xs vs/\aT K F ys us
def kept:HO->Bool|.ins _ _ _=>true|.lst _=>true|_=>false
theorem fm.at{K:Rj}{C:xM}{F H:Hp}{o:Ob}{v:V}{as:List xM}(h:fm K C F H o v as):∀a∈as,F a=none/\∃u,H a=some u/\kept u=true:=by cases o with|dk fs=>obtain⟨p,dx,gs,rfl,rfl,h1,h2,_⟩:=h;intro a ha;rw[RW]at ha;subst ha;exact⟨h1,_,h2,rfl⟩|st xs ys=>
 obtain⟨t,l,m,vs,us,rfl,rfl,h0,h1,h2,h3,h4,h5,_⟩:=h;intro a ha;rcases Re ha with z|z;·rw[z];exact⟨h2,_,h4,rfl⟩
 ·rw[RW]at z;rw[z];exact⟨h3,_,h5,rfl⟩
theorem fm.mono{K:Rj}{C:xM}{F H F' H':Hp}{o:Ob}{v:V}{as:List xM}(h:fm K C F H o v as)(s:ao F F')(hf:∀a∈as,F' a=none)(hh:∀a∈as,H' a=H a):fm K C F' H' o v as:=by cases o with|dk fs=>obtain⟨p,dx,gs,rfl,rfl,h1,h2,h3⟩:=h;exact⟨p,dx,gs,rfl,rfl,hf p (by simp),by rw[hh p (by simp)];exact h2,h3.mono s⟩|st xs ys=>obtain⟨t,l,m,vs,us,rfl,rfl,h0,h1,h2,h3,h4,h5,h6,h7⟩:=h;exact⟨t,l,m,vs,us,rfl,rfl,h0,s.tup h1,hf l (by simp),hf m (by simp),by rw[hh l (by simp)];exact h4,by rw[hh m (by simp)];exact h5,h6.mono s,h7.mono s⟩
inductive Lc where|s (i:Nat)|it (i k:Nat)deriving DecidableEq
def Lc.slot:Lc->Nat|.s i=>i|.it i _=>i
def mj(K:Rj)(F:Hp)(σ:L2.St):Lc->V->Prop|.s i,v=>σ[i]?=some (some v)|.it i k,v=>∃l vs,σ[i]?=some (some (.ref l))/\F l=some (.lst vs)/\vs[k]?=some v
theorem mj.mono{K:Rj}{F F':Hp}{σ σ':L2.St}{c:Lc}{v:V}(h:mj K F σ c v)(s:ao F F')(e:σ'[c.slot]?=σ[c.slot]?):mj K F' σ' c v:=by cases c with|s i=>exact e.trans h|it i k=>obtain⟨l,vs,h1,h2,h3⟩:=h;exact⟨l,vs,e.trans h1,s _ _ h2,h3⟩
theorem mj.uniq{K:Rj}{F:Hp}{σ:L2.St}{c:Lc}{v w:V}(h:mj K F σ c v)(h':mj K F σ c w):v=w:=by cases c with|s i=>have e1:σ[i]?=_:=h;have e2:σ[i]?=_:=h';rw[e1]at e2;cases e2;rfl|it i k=>obtain⟨l,us,e1,e2,e3⟩:=h;obtain⟨l',us',e1',e2',e3'⟩:=h';rw[e1]at e1';cases e1';rw[e2]at e2';cases e2';rw[e3]at e3';cases e3';rfl
abbrev gc:=List (Lc×Ob)
def Fo(ob:gc)(fp:Lc->List xM)(a:xM):Prop:=∃p∈ob,a∈fp p.1
structure aP (K:Rj) (C:xM) (F H:Hp) (σ:L2.St) (e:En) (ob:gc) (fp:Lc->List xM):Prop where
 rel:bf K F H σ e
 obs:∀p∈ob,e[p.1.slot]?=some none/\∃v,mj K F σ p.1 v/\fm K C F H p.2 v (fp p.1)dis:∀p∈ob,∀q∈ob,p.1≠q.1->∀a∈fp p.1,a∉fp q.1
 own:∀a,Fo ob fp a->¬bi σ e H a
structure bv (W:List Nat) (σ:L2.St) (F H:Hp) (e:En) (S:xM->Prop) (σ':L2.St) (F' H':Hp) (e':En) (S':xM->Prop):Prop where
 sf:ao F F'
 dom:∀a,H' a=none->H a=none
 fr:∀a vs,F a=none->H a=some (.lst vs)->¬bi σ e H a->¬S a->F' a=none
 lst:∀a vs,H a=some (.lst vs)->∃vs',H' a=some (.lst vs')tmp:∀a o,H a=some o->¬bi σ e H a->¬S a->H' a=some o
 own:∀a,bi σ' e' H' a\/S' a->(bi σ e H a\/S a)\/H a=none
 wr:∀j,j∉W->σ'[j]?=σ[j]?
 fd:∀a (m:DI),F a=none->H a=some m.1->¬bi σ e H a->¬S a->F' a=none
section
variable{K:Rj}{C:xM}{W W1 W2:List Nat}{σ σ' σ1 σ2:L2.St}{F H F' H' F1 H1 F2 H2:Hp}{e e' e1 e2:En}{ob ob':gc}{fp fp':Lc->List xM}{S S' S1 S2:xM->Prop}
theorem bv.refl:bv W σ F H e S σ F H e S:=⟨ao.refl _,λ_ h=>h,λ_ _ h _ _ _=>h,λ_ vs h=>⟨vs,h⟩,λ_ _ h _ _=>h,λ_ h=>.inl h,λ_ _=>rfl,λ_ _ h _ _ _=>h⟩
theorem bv.no(x:bv W σ F H e S σ1 F1 H1 e1 S1){a:xM}(n1:¬bi σ e H a)(n2:¬S a){o:HO}(h:H a=some o):¬bi σ1 e1 H1 a/\¬S1 a:=by
 have k:¬(bi σ1 e1 H1 a\/S1 a):=λz=>(x.own a z).elim (λz=>z.elim n1 n2) λz=>by rw[h]at z;cases z
 exact⟨λz=>k (.inl z),λz=>k (.inr z)⟩
theorem bv.trans(x:bv W σ F H e S σ1 F1 H1 e1 S1)(y:bv W σ1 F1 H1 e1 S1 σ2 F2 H2 e2 S2):bv W σ F H e S σ2 F2 H2 e2 S2:=⟨x.sf.trans y.sf,λa h=>x.dom a (y.dom a h),λa vs h n n1 n2=>let⟨vs',q⟩:=x.lst a vs n;y.fr a vs' (x.fr a vs h n n1 n2) q (x.no n1 n2 n).1 (x.no n1 n2 n).2,λa vs h=>let⟨vs',q⟩:=x.lst a vs h;y.lst a vs' q,λa o h n1 n2=>y.tmp a o (x.tmp a o h n1 n2) (x.no n1 n2 h).1 (x.no n1 n2 h).2,λa h=>(y.own a h).elim (x.own a) (λz=>.inr (x.dom a z)),λj h=>(y.wr j h).trans (x.wr j h),λa m h n n1 n2=>y.fd a m (x.fd a m h n n1 n2) (x.tmp a _ n n1 n2) (x.no n1 n2 n).1 (x.no n1 n2 n).2⟩
theorem bv.mono(x:bv W1 σ F H e S σ' F' H' e' S')(h:∀j,j∈W1->j∈W):bv W σ F H e S σ' F' H' e' S':=⟨x.sf,x.dom,x.fr,x.lst,x.tmp,x.own,λj n=>x.wr j λz=>n (h j z),x.fd⟩
theorem aP.at(R:aP K C F H σ e ob fp){a:xM}(h:Fo ob fp a):F a=none/\∃u,H a=some u/\kept u=true:=by obtain⟨p,hp,ha⟩:=h;obtain⟨_,v,_,h2⟩:=R.obs p hp;exact h2.at a ha
def okO(ob:gc)(e:En):Bool:=ob.all λp=>match e[p.1.slot]? with|some none=>true|_=>false
theorem CL(h:okO ob e=true){p:Lc×Ob}(hp:p∈ob):e[p.1.slot]?=some none:=by
 have:=Sk.mp h p hp;split at this;·rename_i heq;exact heq
 ·cases this
theorem aP.okO(R:aP K C F H σ e ob fp):L2.okO ob e=true:=Sk.mpr λp hp=>by rw[(R.obs p hp).1]
theorem aP.hn(R:aP K C F H σ e ob fp):∀a,Fo ob fp a->H a≠none:=λa ha=>by obtain⟨_,u,h,_⟩:=R.at ha;rw[h];simp
theorem aP.next(R:aP K C F H σ e ob fp)(x:d_ W σ F H e σ' F' H' e')(hw:∀p∈ob,p.1.slot∉W)(he:L2.okO ob e'=true)(R':bf K F' H' σ' e'):bv W σ F H e (Fo ob fp) σ' F' H' e' (Fo ob fp)/\aP K C F' H' σ' e' ob fp:=by
 have hh:∀a,Fo ob fp a->H' a=H a:=λa ha=>by obtain⟨_,u,h1,_⟩:=R.at ha;rw[h1];exact x.tmp a u h1 (R.own a ha)
 have f0:∀a,Fo ob fp a->F' a=none:=λa ha=>by obtain⟨g1,u,g2,g3⟩:=R.at ha;cases u with|ins c d fs=>exact x.fd a ⟨_,rfl⟩ g1 g2 (R.own a ha)|lst vs=>exact x.fr a vs g1 g2 (R.own a ha)|_=>cases g3
 refine⟨⟨x.sf,x.dom,λa vs h1 h2 h3 _=>x.fr a vs h1 h2 h3,x.lst,λa o h1 h2 _=>x.tmp a o h1 h2,?_,x.wr,λa m h1 h2 h3 _=>x.fd a m h1 h2 h3⟩,R',λp hp=>⟨CL he hp,?_⟩,R.dis,λa ha z=>?_⟩
 ·rintro a (z|z);·exact(x.own a z).imp_left .inl
  ·exact .inl (.inr z)
 ·obtain⟨_,v,h1,h2⟩:=R.obs p hp;exact⟨v,h1.mono x.sf (x.wr _ (hw p hp)),h2.mono x.sf (λa ha=>f0 a ⟨p,hp,ha⟩) (λa ha=>hh a ⟨p,hp,ha⟩)⟩
 ·rcases x.own a z with z|z;·exact R.own a ha z
  ·exact R.hn a ha z
end
abbrev EX:=En×gc
abbrev XE:=EX->Option (Rh×EX)
abbrev XT:=EX->Option (Bool×EX)
abbrev XA:=EX->Option (List Rh×EX)
def ir(K:Rj)(C:xM)(f:XE):TE:=λσ H Q=>∃F x fp r x',aP K C F H σ x.1 x.2 fp/\f x=some (r,x')/\∀F' H' v fp',bv [] σ F H x.1 (Fo x.2 fp) σ F' H' x'.1 (Fo x'.2 fp')->aP K C F' H' σ x'.1 x'.2 fp'->DA K F' r v->Q v H'
def sT(K:Rj)(C:xM)(f:XT):TT:=λσ H Q=>∃F x fp b x',aP K C F H σ x.1 x.2 fp/\f x=some (b,x')/\∀F' H' fp',bv [] σ F H x.1 (Fo x.2 fp) σ F' H' x'.1 (Fo x'.2 fp')->aP K C F' H' σ x'.1 x'.2 fp'->Q b H'
def EC(K:Rj)(C:xM)(f:XA):TA:=λσ H Q=>∃F x fp rs x',aP K C F H σ x.1 x.2 fp/\f x=some (rs,x')/\∀F' H' vs fp',bv [] σ F H x.1 (Fo x.2 fp) σ F' H' x'.1 (Fo x'.2 fp')->aP K C F' H' σ x'.1 x'.2 fp'->aT K F' rs vs->Q vs H'
section
variable{K:Rj}{C:xM}{W:List Nat}{σ σ0:L2.St}{F H F' H' F0 H0:Hp}{e e' e0:En}{ob:gc}{fp:Lc->List xM}{S:xM->Prop}
theorem aP.toD{r:Rv}{d:Rh}{v:V}{H1:Hp}(Y:bv W σ0 F0 H0 e0 S σ F H e (Fo ob fp))(R:aP K C F H σ e ob fp)(hd:∀a,H1 a=none->H0 a=none)(hn:∀a,Fo ob fp a->H1 a≠none)(A:cF K σ H1 F H e r v)(h:iE r=some d):∃F2,bv W σ0 F0 H0 e0 S σ F2 H e (Fo ob fp)/\aP K C F2 H σ e ob fp/\DA K F2 d v:=by cases r with|d x=>cases h;exact⟨F,Y,R,A⟩|s i=>cases h|l xs=>
 cases h;obtain⟨F2,R2,s2,D2,f2⟩:=A.frozen R.rel;have nh:∀a o,H0 a=some o->H1 a≠none:=λa o z w=>by rw[hd a w]at z;cases z
 exact⟨F2,⟨Y.sf.trans s2,Y.dom,λa vs h1 h2 h3 h4=>f2 a (Y.fr a vs h1 h2 h3 h4) (nh a _ h2),Y.lst,Y.tmp,Y.own,Y.wr,λa m h1 h2 h3 h4=>f2 a (Y.fd a m h1 h2 h3 h4) (nh a _ h2)⟩,⟨R2,λp hp=>let⟨c1,u,c2,c3⟩:=R.obs p hp;⟨c1,u,c2.mono s2 rfl,c3.mono s2 (λa ha=>f2 a (R.at ⟨p,hp,ha⟩).1 (hn a ⟨p,hp,ha⟩)) λ_ _=>rfl⟩,R.dis,R.own⟩,D2⟩
theorem aP.pure(R:aP K C F H σ e ob fp)(X:dX σ F H e F' H' e')(R':bf K F' H' σ e')(he:L2.okO ob e'=true):bv [] σ F H e (Fo ob fp) σ F' H' e' (Fo ob fp)/\aP K C F' H' σ e' ob fp:=R.next X.s (λ_ _=>by simp) he R'
theorem aP.pure0(R:aP K C F H σ e ob fp)(X:dX σ F H e F' H' e)(R':bf K F' H' σ e):bv [] σ F H e (Fo ob fp) σ F' H' e (Fo ob fp)/\aP K C F' H' σ e ob fp:=R.pure X R' R.okO
end
section
variable{X:Cx}{K:Rj}{C:xM}{a b:Rl}{fe:FE}{fa fb:XE}{ft fu:XT}{fs:XA}{pos:Pos}{es:List Rl}{aB:List Rl}
def aw(f:FE):XE:=λx=>(f x.1).bind λp=>(iE p.1).bind λd=>if okO x.2 p.2=true then some (d,(p.2,x.2)) else none
theorem aq(he:PE X a (fE K fe)):PE X a (ir K C (aw fe)):=he.mono λσ H Q h=>by
 obtain⟨F,x,as,r,x',R,hf,q⟩:=h;unfold aw at hf;obtain⟨⟨r1,e1⟩,h1,hf⟩:=Q6 hf;obtain⟨d,h2,hf⟩:=Q6 hf;split at hf;case isFalse=>cases hf
 case isTrue ho=>cases hf;refine⟨F,x.1,r1,e1,R.rel,h1,λF' H' v X' R' A'=>?_⟩;obtain⟨Y,R2⟩:=R.pure X' R' ho;obtain⟨F2,Y2,R3,D⟩:=aP.toD Y R2 (λ_ z=>z) R.hn A' h2;exact q F2 H' v as Y2 R3 D
def et(f:FT):XT:=λx=>(f x.1).bind λp=>if okO x.2 p.2=true then some (p.1,(p.2,x.2)) else none
theorem iK{ft:FT}(he:PT X a (fT K ft)):PT X a (sT K C (et ft)):=he.mono λσ H Q h=>by
 obtain⟨F,x,as,r,x',R,hf,q⟩:=h;unfold et at hf;obtain⟨⟨r1,e1⟩,h1,hf⟩:=Q6 hf;split at hf;case isFalse=>cases hf
 case isTrue ho=>cases hf;refine⟨F,x.1,r1,e1,R.rel,h1,λF' H' X' R'=>?_⟩;obtain⟨Y,R2⟩:=R.pure X' R' ho;exact q F' H' as Y R2
def iQ(g:En->Rv->Rv->Option Rv)(fa fb:XE):XE:=λx=>(fa x).bind λp=>(fb p.2).bind λq=>(g q.2.1 (.d p.1) (.d q.1)).bind λz=>(iE z).map λd=>(d,q.2)
theorem wn{r:R2}{g:En->Rv->Rv->Option Rv}(ho:iR K r g){σ:L2.St}{H:Hp}{Q:VK}(h:ir K C (iQ g fa fb) σ H Q):Kk r (ir K C fa) (ir K C fb) σ H Q:=by obtain⟨F,x,as,z,x',R,hf,q⟩:=h;unfold iQ at hf;obtain⟨⟨y,x1⟩,h1,hf⟩:=Q6 hf;obtain⟨⟨y2,x2⟩,h2,hf⟩:=Q6 hf;obtain⟨z',h3,hf⟩:=Q6 hf;obtain⟨d,h4,hf⟩:=Q7 hf;cases hf;refine⟨F,x,as,y,x1,R,h1,λF1 H1 v as1 X1 R1 A1=>⟨F1,x1,as1,y2,_,R1,h2,λF2 H2 u as2 X2 R2 A2=>?_⟩⟩;refine ho σ H F2 H2 _ (.d y) (.d y2) z' v u Q R2.rel (show DA K F2 y v from A1.mono X2.sf) (show DA K F2 y2 u from A2) h3 λF3 H3 w X3 R3 A3=>?_;obtain⟨Y,R4⟩:=R2.pure0 X3 R3;obtain⟨F4,Y4,R5,D⟩:=aP.toD Y R4 (λ_ z=>z) R2.hn A3 h4;exact q F4 H3 w _ ((X1.trans X2).trans Y4) R5 D
theorem JB{op:Operator}{r:R2}{g:En->Rv->Rv->Option Rv}(hr:iW X (Sx op) r)(ho:iR K r g)(ha:PE X a (ir K C fa))(hb:PE X b (ir K C fb)):PE X (.BinOp a op b pos) (ir K C (iQ g fa fb)):=(G8 hr ha hb).mono λ_ _ _ h=>wn ho h
theorem Jy(hK:X.K=K)(ha:PE X a (ir K C fa))(hb:PE X b (ir K C fb)):PE X (.BinOp a .Add b pos) (ir K C (iQ cP fa fb)):=JB (hK▸zN) GO ha hb
theorem C_(hK:X.K=K)(ha:PE X a (ir K C fa))(hb:PE X b (ir K C fb))(hs:mM b):PE X (.Subscript a b pos) (ir K C (iQ dI fa fb)):=(CU (hK▸KN) ha hb hs).mono λ_ _ _ h=>wn KO h
def boolD:Rh->Option Bool|.bool b=>some b|_=>none
theorem BB{F:Hp}{d:Rh}{v:V}{b:Bool}(h:DA K F d v)(q:boolD d=some b):v=.bl b:=by
 unfold boolD at q;split at q;·cases q;exact cS.mp h
 ·cases q
def bz(f:XE):XT:=λx=>(f x).bind λp=>(boolD p.1).map λb=>(b,p.2)
theorem uK{σ:L2.St}{H:Hp}{Q:Bool->Hp->Prop}(h:sT K C (bz fa) σ H Q):ir K C fa σ H λx H'=>∃k,x=.bl k/\Q k H':=by obtain⟨F,x,as,b,x1,R,hf,q⟩:=h;unfold bz at hf;obtain⟨⟨y,x1'⟩,h1,hf⟩:=Q6 hf;obtain⟨b',h3,hf⟩:=Q7 hf;cases hf;exact⟨F,x,as,y,_,R,h1,λF1 H1 v as1 X1 R1 A1=>⟨_,BB A1 h3,q F1 H1 as1 X1 R1⟩⟩
theorem qu{op:CmpOp}{g:En->Rv->Rv->Option Rv}(h:p9 X K op g)(ha:PE X a (ir K C fa))(hb:PE X b (ir K C fb))(hm:To op b=false):PT X (.Compare a [op] [b] pos) (sT K C (bz (iQ g fa fb))):=by obtain⟨r,h1,h2⟩:=h.ex;exact(zP h1 ha hb hm).mono λσ H Q h=>by obtain⟨F,x,as,z,x2,R,hf,q⟩:=uK h;exact wn h2 ⟨F,x,as,z,x2,R,hf,q⟩
theorem j_{e:Rl}(h:PE X e (ir K C fa))(he:∀whole,isTrue e X.env whole=(do let v<-whole;standAt e.pos;holding [v] (truthy v))):PT X e (sT K C (bz fa)):=(C7 h he).mono λ_ _ _ h=>uK h
def wq(f g:XT):XT:=λe=>(f e).bind λp=>if p.1=true then some (true,p.2) else g p.2
def fj(f:XT):XT:=λe=>(f e).map λp=>(!p.1,p.2)
theorem GC{σ:L2.St}{H:Hp}{Q:Bool->Hp->Prop}(h:sT K C (wq ft fu) σ H Q):M9 (sT K C ft) (sT K C fu) σ H Q:=by obtain⟨F,e,as,b,e1,R,hf,q⟩:=h;unfold wq at hf;obtain⟨⟨x,e1'⟩,h1,hf⟩:=Q6 hf;refine⟨F,e,as,x,e1',R,h1,λF1 H1 as1 X1 R1=>?_⟩;cases x with|false=>exact⟨F1,e1',as1,b,e1,R1,hf,λF2 H2 as2 X2 R2=>q F2 H2 as2 (X1.trans X2) R2⟩|true=>cases hf;exact q F1 H1 as1 X1 R1
theorem zS(ha:PT X a (sT K C ft)):PW X (.BoolOp .Or [a] pos) (sT K C ft):=C8 ha
theorem Dq(ha:PT X a (sT K C ft))(hb:PW X (.BoolOp .Or (b::aB) pos) (sT K C fu)):PW X (.BoolOp .Or (a::b::aB) pos) (sT K C (wq ft fu)):=(G_ ha hb).mono λ_ _ _ h=>GC h
theorem j9(ha:PT X a (sT K C ft)):PT X (.UnaryOp .Not a pos) (sT K C (fj ft)):=(C6 ha).mono λσ H Q h=>by obtain⟨F,e,as,b,e1,R,hf,q⟩:=h;unfold fj at hf;obtain⟨⟨x,e1'⟩,h1,hf⟩:=Q7 hf;cases hf;exact⟨F,e,as,x,_,R,h1,λF1 H1 as1 X1 R1=>q F1 H1 as1 X1 R1⟩
theorem He{e:Rl}(h:PW X e (sT K C ft)):PT X e (sT K C ft):=h.pt
def zh(t:XT)(f g:XE):XE:=λe=>(t e).bind λp=>if p.1=true then f p.2 else g p.2
theorem um{c:Rl}(hc:PT X c (sT K C ft))(ha:PE X a (ir K C fa))(hb:PE X b (ir K C fb)):PE X (.IfExp c a b pos) (ir K C (zh ft fa fb)):=(xC hc ha hb).mono λσ H Q h=>by obtain⟨F,e,as,z,e2,R,hf,q⟩:=h;unfold zh at hf;obtain⟨⟨x,e1⟩,h1,hf⟩:=Q6 hf;refine⟨F,e,as,x,e1,R,h1,λF1 H1 as1 X1 R1=>?_⟩;cases x with|true=>exact⟨F1,e1,as1,z,e2,R1,hf,λF2 H2 w as2 X2 R2 A2=>q F2 H2 w as2 (X1.trans X2) R2 A2⟩|false=>exact⟨F1,e1,as1,z,e2,R1,hf,λF2 H2 w as2 X2 R2 A2=>q F2 H2 w as2 (X1.trans X2) R2 A2⟩
def gX:XA:=λe=>some ([],e)
def bS(fa:XE)(fs:XA):XA:=λe=>(fa e).bind λp=>(fs p.2).map λq=>(p.1::q.1,q.2)
theorem n_:PA X [] (EC K C gX):=fL.mono λσ H Q h=>by obtain⟨F,e,as,r,e',R,hf,q⟩:=h;cases hf;exact q F H [] as bv.refl R aT.nil
theorem ma(ha:PE X a (ir K C fa))(hr:PA X es (EC K C fs))(h:TF a=false):PA X (a::es) (EC K C (bS fa fs)):=(nV ha hr h).mono λσ H Q h=>by obtain⟨F,e,as,z,e2,R,hf,q⟩:=h;unfold bS at hf;obtain⟨⟨x,e1⟩,h1,hf⟩:=Q6 hf;obtain⟨⟨xs,e2'⟩,h2,hf⟩:=Q7 hf;cases hf;refine⟨F,e,as,x,e1,R,h1,λF1 H1 v as1 X1 R1 A1=>⟨F1,e1,as1,xs,_,R1,h2,λF2 H2 vs as2 X2 R2 A2=>?_⟩⟩;exact q F2 H2 (v::vs) as2 (X1.trans X2) R2 (.cons (A1.mono X2.sf) A2)
theorem Hm{F H0 H:Hp}{σ:L2.St}{e:En}:∀{ds:List Rh}{vs:List V},aT K F ds vs->eB K σ H0 F H e (ds.map .d) vs|[],_,h=>by simp only[aT]at h;exact h|d::ds,_,h=>by simp only[aT]at h;obtain⟨x,r,rfl,h1,h2⟩:=h;exact⟨x,r,rfl,h1,Hm h2⟩
def pz(g:En->List Rv->Option Rv)(fs:XA):XE:=λx=>(fs x).bind λp=>(g p.2.1 (p.1.map .d)).bind λz=>(iE z).map λd=>(d,p.2)
theorem uI{r:List V->Hp->VK->Prop}{g:En->List Rv->Option Rv}(ho:dH K r g){σ:L2.St}{H:Hp}{Q:VK}(h:ir K C (pz g fs) σ H Q):Mh r (EC K C fs) σ H Q:=by obtain⟨F,x,as,z,x2,R,hf,q⟩:=h;unfold pz at hf;obtain⟨⟨ds,x1⟩,h1,hf⟩:=Q6 hf;obtain⟨z',h3,hf⟩:=Q6 hf;obtain⟨d,h4,hf⟩:=Q7 hf;cases hf;refine⟨F,x,as,ds,_,R,h1,λF1 H1 vs as1 X1 R1 A1=>?_⟩;refine ho σ H F1 H1 _ _ _ vs Q R1.rel (Hm A1) h3 λF3 H3 w X3 R3 A3=>?_;obtain⟨Y,R4⟩:=R1.pure0 X3 R3;obtain⟨F4,Y4,R5,D⟩:=aP.toD Y R4 (λ_ z=>z) R1.hn A3 h4;exact q F4 H3 w _ (X1.trans Y4) R5 D
theorem Jz{x:Str}{g:En->List Rv->Option Rv}(h:mi X K x g)(hg:Gl X x)(hm:X.mg x=none)(ha:PA X (a::es) (EC K C fs))(hn:x≠"__name__")(hdb:(x==("__debug__":Str))=false){p:Pos}(he:RB (a::es) X.env=(false,RC a X.env)::RB es X.env)(hpl:(RP pos (RB es X.env)).any (·.1)=false):PE X (.Call (.Name x p) (a::es) [] pos) (ir K C (pz g fs)):=by
 rcases h.ex with⟨id,r,h1,h2,h3⟩|⟨T,r,h1,h2,h3⟩;·exact(rF h1 hg hm h3 ha hn hdb he hpl).mono λ_ _ _ h=>uI h2 h
 ·exact(uj h1 hg hm h3 ha hn hdb he hpl).mono λ_ _ _ h=>uI h2 h
def GD(fa:XE)(lo hi:Option Int):XE:=λx=>(fa x).bind λp=>(HX p.2.1 (.d p.1) lo hi).bind λz=>(iE z).map λd=>(d,p.2)
def bT(i:Nat)(f:Str):XE:=λx=>match x.2.lookup (.s i) with|some (.dk fs)=>(fs.lookup f).map λd=>(d,x)|_=>none
theorem bF{c:Lc}{o:Ob}:∀{ob:gc},ob.lookup c=some o->(c,o)∈ob|[],h=>by cases h|(c0,o0)::r,h=>by rw[Sm]at h;cases k:c==c0 with|true=>rw[k]at h;cases h;rw[eq_of_beq k];exact TN|false=>rw[k]at h;exact SS _ (bF h)
theorem cj{i:Nat}{x f:Str}{p:Pos}(hK:X.K=K)(cl:sP K C)(na:bQ K C f)(ho:PE X (.Name x p) (mJ i))(hb:SU (.Name x p) f X.env (RC (.Name x p) X.env)=RC (.Name x p) X.env):PE X (.Attribute (.Name x p) f pos) (ir K C (bT i f)):=(Jo ho hb).mono λσ H Q h=>by
 subst hK;obtain⟨F,e,as,r,e',R,hf,q⟩:=h;unfold bT at hf;split at hf;case h_2=>cases hf
 case h_1 fs hl=>obtain⟨d,h1,hf⟩:=Q7 hf;cases hf;obtain⟨_,v,g1,g2⟩:=R.obs _ (bF hl);obtain⟨a,dx,gs,rfl,_,c1,c2,c3⟩:=g2;obtain⟨u,d1,d2⟩:=c3.get h1;exact⟨_,g1,a,C,dx,gs,u,rfl,c2,cl,na,d1,q F H u as bv.refl R d2⟩
end
inductive J9 where|nx (x:EX)|bk (x:EX)|ct (x:EX)|rt (r:Rh) (x:EX)
abbrev XS:=EX->Option J9
def jk(K:Rj)(C:xM)(W:List Nat)(σ:L2.St)(F H:Hp)(e:En)(S:xM->Prop)(D:qD):J9->Prop|.nx x=>∀F' H' σ' fp',bv W σ F H e S σ' F' H' x.1 (Fo x.2 fp')->aP K C F' H' σ' x.1 x.2 fp'->D.nx σ' H'|.bk x=>∀F' H' σ' fp',bv W σ F H e S σ' F' H' x.1 (Fo x.2 fp')->aP K C F' H' σ' x.1 x.2 fp'->D.bk σ' H'|.ct x=>∀F' H' σ' fp',bv W σ F H e S σ' F' H' x.1 (Fo x.2 fp')->aP K C F' H' σ' x.1 x.2 fp'->D.ct σ' H'|.rt r x=>∀F' H' σ' v fp',bv W σ F H e S σ' F' H' x.1 (Fo x.2 fp')->aP K C F' H' σ' x.1 x.2 fp'->DA K F' r v->D.rt v H'
def qe(K:Rj)(C:xM)(f:XS)(W:List Nat):TS:=λD σ H=>∃F x fp fl,aP K C F H σ x.1 x.2 fp/\f x=some fl/\jk K C W σ F H x.1 (Fo x.2 fp) D fl
theorem jk.later{K:Rj}{C:xM}{W W1 W2:List Nat}{σ σ1:L2.St}{F H F1 H1:Hp}{e e1:En}{S S1:xM->Prop}{D:qD}{fl:J9}(h:jk K C W σ F H e S D fl)(x:bv W1 σ F H e S σ1 F1 H1 e1 S1)(h1:∀j,j∈W1->j∈W)(h2:∀j,j∈W2->j∈W):jk K C W2 σ1 F1 H1 e1 S1 D fl:=by cases fl with|nx e'=>exactλF' H' σ' fp y R=>h F' H' σ' fp ((x.mono h1).trans (y.mono h2)) R|bk e'=>exactλF' H' σ' fp y R=>h F' H' σ' fp ((x.mono h1).trans (y.mono h2)) R|ct e'=>exactλF' H' σ' fp y R=>h F' H' σ' fp ((x.mono h1).trans (y.mono h2)) R|rt r e'=>exactλF' H' σ' v fp y R A=>h F' H' σ' v fp ((x.mono h1).trans (y.mono h2)) R A
section
variable{X:Cx}{K:Rj}{C:xM}{W W1 W2:List Nat}{st:Rx}{aB bs cs:List Rx}{f g:XS}{f0:FS}{ft:XT}{fa:XE}{pos:Pos}{a c:Rl}
def iY(W:List Nat)(ob:gc):Bool:=ob.all λp=>!W.contains p.1.slot
theorem rD{ob:gc}(h:iY W ob=true):∀p∈ob,p.1.slot∉W:=λp hp z=>by have:=Sk.mp h p hp;simp[z]at this
def ek(W:List Nat)(f:FS):XS:=λx=>if iY W x.2=true then(f x.1).bind λfl=>match fl with|.nx e=>if okO x.2 e=true then some (.nx (e,x.2)) else none|.bk e=>if okO x.2 e=true then some (.bk (e,x.2)) else none|.ct e=>if okO x.2 e=true then some (.ct (e,x.2)) else none|.rt r e=>(iE r).bind λd=>if okO x.2 e=true then some (.rt d (e,x.2)) else none else none
theorem E3{D:qD}{σ:L2.St}{H:Hp}(h:qe K C (ek W f0) W D σ H):fS K f0 W D σ H:=by
 obtain⟨F,x,fp,fl,R,hf,q⟩:=h;unfold ek at hf;split at hf;case isFalse=>cases hf
 case isTrue hw=>have hw':=rD hw;obtain⟨fl1,h1,hf⟩:=Q6 hf;refine⟨F,x.1,fl1,R.rel,h1,?_⟩;cases fl1 with|rt r e=>
  obtain⟨d,h2,hf⟩:=Q6 hf;split at hf;case isFalse=>cases hf
  case isTrue ho=>cases hf;intro F' H' σ' v X' R' A';obtain⟨Y,R2⟩:=R.next X' hw' ho R';obtain⟨F2,Y2,R3,A⟩:=aP.toD Y R2 (λ_ z=>z) R.hn A' h2;exact q F2 H' σ' v fp Y2 R3 A|nx e=>
  dsimp only at hf;split at hf;case isFalse=>cases hf
  case isTrue ho=>cases hf;intro F' H' σ' X' R';obtain⟨Y,R2⟩:=R.next X' hw' ho R';exact q F' H' σ' fp Y R2|bk e=>
  dsimp only at hf;split at hf;case isFalse=>cases hf
  case isTrue ho=>cases hf;intro F' H' σ' X' R';obtain⟨Y,R2⟩:=R.next X' hw' ho R';exact q F' H' σ' fp Y R2|ct e=>
  dsimp only at hf;split at hf;case isFalse=>cases hf
  case isTrue ho=>cases hf;intro F' H' σ' X' R';obtain⟨Y,R2⟩:=R.next X' hw' ho R';exact q F' H' σ' fp Y R2
theorem oj(h:PS X st (fS K f0 W)):PS X st (qe K C (ek W f0) W):=h.mono λ_ _ _ h=>E3 h
def b_:XS:=λx=>some (.nx x)
def aZ(f g:XS):XS:=λx=>(f x).bind λfl=>match fl with|.nx x1=>g x1|fl=>some fl
theorem dh:ke X [] (qe K C b_ []):=zO.mono λD σ H h=>by obtain⟨F,x,fp,fl,R,hf,q⟩:=h;cases hf;exact q F H σ fp bv.refl R
theorem aM(h1:PS X st (qe K C f W1))(h2:ke X aB (qe K C g W2)):ke X (st::aB) (qe K C (aZ f g) (W1++W2)):=(nY h1 h2).mono λD σ H h=>by obtain⟨F,e,fp,fl,R,hf,q⟩:=h;unfold aZ at hf;obtain⟨fl1,h1,hf⟩:=Q6 hf;have s1:∀j,j∈W1->j∈W1++W2:=λj h=>SH.mpr (.inl h);have s2:∀j,j∈W2->j∈W1++W2:=λj h=>SH.mpr (.inr h);refine⟨F,e,fp,fl1,R,h1,?_⟩;cases fl1 with|nx e1=>exactλF' H' σ' fp' x R'=>⟨F',e1,fp',fl,R',hf,q.later x s1 s2⟩|bk e1=>cases hf;exactλF' H' σ' fp' x R'=>q F' H' σ' fp' (x.mono s1) R'|ct e1=>cases hf;exactλF' H' σ' fp' x R'=>q F' H' σ' fp' (x.mono s1) R'|rt r e1=>cases hf;exactλF' H' σ' v fp' x R' A=>q F' H' σ' v fp' (x.mono s1) R' A
theorem aX(h1:PS X st (qe K C f W)):ke X [st] (qe K C f W):=vS h1
def cX(ft:XT)(f g:XS):XS:=λe=>(ft e).bind λp=>if p.1=true then f p.2 else g p.2
theorem fQ(hc:PT X c (sT K C ft))(ha:ke X bs (qe K C f W1))(hb:ke X cs (qe K C g W2)):PS X (.If c bs cs pos) (qe K C (cX ft f g) (W1++W2)):=(G9 hc ha hb).mono λD σ H h=>by obtain⟨F,e,fp,fl,R,hf,q⟩:=h;unfold cX at hf;obtain⟨⟨x,e1⟩,h1,hf⟩:=Q6 hf;refine⟨F,e,fp,x,e1,R,h1,λF1 H1 fp1 X1 R1=>?_⟩;cases x with|true=>exact⟨F1,e1,fp1,fl,R1,hf,q.later (W1:=[]) X1 (λj h=>by cases h) λj h=>SH.mpr (.inl h)⟩|false=>exact⟨F1,e1,fp1,fl,R1,hf,q.later (W1:=[]) X1 (λj h=>by cases h) λj h=>SH.mpr (.inr h)⟩
def bD(fa:XE):XS:=λe=>(fa e).map λp=>.rt p.1 p.2
theorem b7(he:PE X a (ir K C fa)):PS X (.Return (some a) pos) (qe K C (bD fa) []):=(yU he).mono λD σ H h=>by obtain⟨F,e,fp,fl,R,hf,q⟩:=h;obtain⟨⟨x,e1⟩,h1,hf⟩:=Q7 hf;cases hf;exact⟨F,e,fp,x,e1,R,h1,λF1 H1 v fp1 X1 R1 A1=>q F1 H1 σ v fp1 X1 R1 A1⟩
def ou(i:Nat)(fa:XE):XS:=λx=>(fa x).bind λp=>if iY [i] p.2.2=true then some (.nx (p.2.1.set i (some (.d p.1)),p.2.2)) else none
theorem aP.setD{F H:Hp}{σ:L2.St}{e:En}{ob:gc}{fp:Lc->List xM}{i:Nat}{x:Rh}{v:V}(R:aP K C F H σ e ob fp)(h:DA K F x v)(hw:iY [i] ob=true):bv [i] σ F H e (Fo ob fp) (σ.set i (some v)) F H (e.set i (some (.d x))) (Fo ob fp)/\aP K C F H (σ.set i (some v)) (e.set i (some (.d x))) ob fp:=by have hw':=rD hw;obtain⟨R2,o2⟩:=R.rel.setD i h;have ne:∀p∈ob,i≠p.1.slot:=λp hp z=>hw' p hp (by rw[z];simp);refine⟨⟨ao.refl _,λ_ z=>z,λ_ _ z _ _ _=>z,λ_ vs z=>⟨vs,z⟩,λ_ _ z _ _=>z,λa z=>.inl (z.imp_left (o2 a)),λj n=>RI (λz=>n (by simp[z])),λ_ _ z _ _ _=>z⟩,R2,λp hp=>?_,R.dis,λa ha z=>R.own a ha (o2 a z)⟩;obtain⟨c1,u,c2,c3⟩:=R.obs p hp;exact⟨by rw[RI (ne p hp)];exact c1,u,c2.mono (ao.refl _) (RI (ne p hp)),c3⟩
theorem vV{i:Nat}{x:Str}{pos':Pos}(hN:X.N.Nodup)(hi:X.N[i]?=some x)(hx:zo X.env.scope x)(he:PE X a (ir K C fa))(hs:Tx a (some (.Name x pos')) pos.line X.env=pure false)(hf:X.fn x=true\/X.env.scope.names.lookup x=some .local):PS X (.Assign [.Name x pos'] a pos) (qe K C (ou i fa) [i]):=(vQ hN hi hx he hs hf).mono λD σ H h=>by
 obtain⟨F,e,fp,fl,R,hf,q⟩:=h;unfold ou at hf;obtain⟨⟨r,e1⟩,h1,hf⟩:=Q6 hf;split at hf;case isFalse=>cases hf
 case isTrue hw=>cases hf;refine⟨F,e,fp,r,e1,R,h1,λF1 H1 v fp1 X1 R1 A1=>?_⟩;obtain⟨Y,R2⟩:=R1.setD A1 hw;exact q F1 H1 _ fp1 ((X1.mono (λj h=>by cases h)).trans Y) R2
def kn(c:Lc)(o:Ob)(ob:gc):gc:=ob.map λp=>if p.1=c then(p.1,o) else p
theorem k_{c:Lc}{o:Ob}{ob:gc}{p:Lc×Ob}:p∈kn c o ob↔∃q∈ob,p.1=q.1/\(if q.1=c then p.2=o else p.2=q.2):=by
 unfold kn;rw[UG];constructor
 ·rintro⟨q,h1,h2⟩;refine⟨q,h1,?_⟩;split at h2;·rename_i z;subst h2;exact⟨rfl,by rw[if_pos z]⟩
  ·rename_i z;subst h2;exact⟨rfl,by rw[if_neg z]⟩
 ·rintro⟨q,h1,h2,h3⟩;refine⟨q,h1,?_⟩;obtain⟨p1,p2⟩:=p;dsimp only at h2 h3;split at h3;·rename_i z;rw[if_pos z,h3,h2]
  ·rename_i z;rw[if_neg z,h2,h3]
theorem aP.put{F H F' H':Hp}{σ:L2.St}{e:En}{ob:gc}{fp:Lc->List xM}{c:Lc}{o:Ob}{fs:List xM}(R:aP K C F H σ e ob fp)(hc:∃u,(c,u)∈ob)(sF:ao F F')(sm:ao F' H')(dom:∀a,H' a=none->H a=none)(lst:∀a vs,H a=some (.lst vs)->∃vs',H' a=some (.lst vs'))(tmp:∀a u,H a=some u->a∉fp c->H' a=some u)(fr:∀a,F a=none->(∃u,H a=some u/\(kept u=true\/B9 u=true))->a∉fp c->F' a=none)(hfs:∀a∈fs,a∈fp c\/H a=none)(ho:∀v,mj K F σ c v->(∃u,fm K C F H u v (fp c))->fm K C F' H' o v fs):bv [] σ F H e (Fo ob fp) σ F' H' e (Fo (kn c o ob) λd=>if d=c then fs else fp d)/\aP K C F' H' σ e (kn c o ob) λd=>if d=c then fs else fp d:=by
 obtain⟨u,hu⟩:=hc;have nc:∀a,bi σ e H a->a∉fp c:=λa h z=>R.own a ⟨_,hu,z⟩ h;obtain⟨R2,o2⟩:=R.rel.keep sF sm (λa h=>by obtain⟨i,hi⟩:=h;obtain⟨h1,vs,h2⟩:=R.rel.fpAt hi;exact fr a h1 ⟨_,h2,.inl rfl⟩ (nc a ⟨i,hi⟩)) (λa o h q=>tmp a o q (nc a h));have sub:∀a,Fo (kn c o ob) (λd=>if d=c then fs else fp d) a->Fo ob fp a\/H a=none:=by
  rintro a⟨p,hp,ha⟩;obtain⟨q,h1,h2,h3⟩:=k_.mp hp;rw[h2]at ha;by_cases z:q.1=c
  ·simp only[if_pos z]at ha;rcases hfs a ha with w|w;·exact .inl ⟨_,hu,w⟩
   ·exact .inr w
  ·simp only[if_neg z]at ha;exact .inl ⟨q,h1,ha⟩
 refine⟨⟨sF,dom,λa vs h1 h2 _ h4=>fr a h1 ⟨_,h2,.inl rfl⟩ λz=>h4 ⟨_,hu,z⟩,lst,λa u h1 _ h3=>tmp a u h1 λz=>h3 ⟨_,hu,z⟩,λa z=>?_,λ_ _=>rfl,λa m h1 h2 _ h4=>fr a h1 ⟨_,h2,.inr m.2⟩ λz=>h4 ⟨_,hu,z⟩⟩,R2,λp hp=>?_,?_,λa ha z=>?_⟩
 ·rcases z with z|z;·exact .inl (.inl ((o2 a).mp z))
  ·exact(sub a z).imp_left .inr
 ·obtain⟨q,h1,h2,h3⟩:=k_.mp hp;obtain⟨c1,v,c2,c3⟩:=R.obs q h1;rw[h2];refine⟨c1,v,c2.mono sF rfl,?_⟩;by_cases z:q.1=c;·rw[if_pos z]at h3;simp only[if_pos z,h3];exact ho v (by rw[<-z];exact c2) ⟨_,by rw[<-z];exact c3⟩
  ·rw[if_neg z]at h3;simp only[if_neg z,h3];have nq:∀a∈fp q.1,a∉fp c:=λa ha=>R.dis q h1 (c,u) hu z a ha;refine c3.mono sF (λa ha=>?_) λa ha=>?_;·obtain⟨g1,w,g2,g3⟩:=R.at ⟨q,h1,ha⟩;exact fr a g1 ⟨w,g2,.inl g3⟩ (nq a ha)
   ·obtain⟨g1,w,g2,g3⟩:=R.at ⟨q,h1,ha⟩;rw[g2];exact tmp a w g2 (nq a ha)
 ·intro p hp q hq hne a ha;obtain⟨p0,h1,h2,_⟩:=k_.mp hp;obtain⟨q0,g1,g2,_⟩:=k_.mp hq;rw[h2]at ha hne;rw[g2]at hne;rw[g2];by_cases z:p0.1=c
  ·simp only[if_pos z]at ha;have z2:q0.1≠c:=λz2=>hne (z.trans z2.symm);simp only[if_neg z2];intro w;rcases hfs a ha with k|k;·exact R.dis q0 g1 (c,u) hu z2 a w k
   ·exact R.hn a ⟨q0,g1,w⟩ k
  ·simp only[if_neg z]at ha;by_cases z2:q0.1=c
   ·simp only[if_pos z2];intro w;rcases hfs a w with k|k;·exact R.dis p0 h1 (c,u) hu z a ha k
    ·exact R.hn a ⟨p0,h1,ha⟩ k
   ·simp only[if_neg z2];exact R.dis p0 h1 q0 g1 hne a ha
 ·rcases sub a ha with w|w;·exact R.own a w ((o2 a).mp z)
  ·exact R.rel.ownH a ((o2 a).mp z) w
def eX(i:Nat)(f:Str)(fa:XE):XS:=λx=>(fa x).bind λp=>match p.2.2.lookup (.s i) with|some (.dk fs)=>if fs.length<900 then some (.nx (p.2.1,kn (.s i) (.dk (nZ f p.1 fs)) p.2.2)) else none|_=>none
theorem iZ{i:Nat}{x f:Str}{p pos':Pos}(hK:X.K=K)(cl:sP K C)(na:bQ K C f)(ho:PE X (.Name x p) (mJ i))(hv:PE X a (ir K C fa))(hs:Tx a (some (.Attribute (.Name x p) f pos')) pos.line X.env=pure false):PS X (.Assign [.Attribute (.Name x p) f pos'] a pos) (qe K C (eX i f fa) []):=(Jt ho hv hs).mono λD σ H h=>by
 subst hK;obtain⟨F,e,fp,fl,R,hf,q⟩:=h;unfold eX at hf;obtain⟨⟨r,e1⟩,h1,hf⟩:=Q6 hf;dsimp only at hf;split at hf;case h_2=>cases hf
 case h_1 fs hl=>
 split at hf;case isFalse=>cases hf
 case isTrue hlen=>cases hf;refine⟨F,e,fp,r,e1,R,h1,λF1 H1 v fp1 X1 R1 A1=>?_⟩;have hm:=bF hl;obtain⟨_,u,g1,g2⟩:=R1.obs _ hm;have g2':=g2;obtain⟨a,dx,gs,rfl,ha,c1,c2,c3⟩:=g2;refine⟨_,g1,a,C,dx,gs,rfl,c2,cl,na,by rw[c3.len];lia,?_⟩;dsimp only at ha;obtain⟨Y,R2⟩:=R1.put (c:=.s i) (o:=.dk (nZ f r fs)) (fs:=[a]) (F':=F1) (H':=bg H1 a (.ins C dx (jw f v gs))) ⟨_,hm⟩ (ao.refl _) (λb o z=>by
  have:b≠a:=λw=>by rw[w,c1]at z;cases z
  rw[av this];exact R1.rel.sm b o z) (λb z=>by
  by_cases w:b=a;·rw[w,au]at z;cases z
  ·rw[av w]at z;exact z) (λb vs z=>⟨vs,by
  have:b≠a:=λw=>by rw[w,c2]at z;cases z
  rw[av this];exact z⟩) (λb u z w=>by rw[ha]at w;have:b≠a:=λk=>w (by simp[k]);rw[av this];exact z) (λb z _ _=>z) (λb hb=>.inl (by rw[ha];exact hb)) (λv' g1' _=>by have g1:σ[i]?=_:=g1;have g1':σ[i]?=_:=g1';rw[g1]at g1';cases g1';exact⟨a,dx,_,rfl,rfl,c1,au,c3.put A1⟩);exact q F1 _ σ _ (X1.trans Y) R2
end
section
variable{K:Rj}{C:xM}{F H F' H':Hp}{σ:L2.St}{e:En}{ob ob':gc}{fp fp':Lc->List xM}
theorem aP.putM(R:aP K C F H σ e ob fp)(T:Lc->Prop)(hT:∀c,T c->∃u,(c,u)∈ob)(hob:∀p∈ob',∃q∈ob,p.1=q.1/\(¬T q.1->p.2=q.2))(hfp:∀c,¬T c->fp' c=fp c)(sF:ao F F')(sm:ao F' H')(dom:∀a,H' a=none->H a=none)(lst:∀a vs,H a=some (.lst vs)->∃vs',H' a=some (.lst vs'))(tmp:∀a u,H a=some u->(∀c,T c->a∉fp c)->H' a=some u)(fr:∀a,F a=none->(∃u,H a=some u/\(kept u=true\/B9 u=true))->(∀c,T c->a∉fp c)->F' a=none)(hfs:∀c,T c->∀a∈fp' c,(∃d,T d/\a∈fp d)\/H a=none)(hdis:∀c d,T c->T d->c≠d->∀a∈fp' c,a∉fp' d)(ho:∀p∈ob',T p.1->∀v,mj K F σ p.1 v->fm K C F' H' p.2 v (fp' p.1)):bv [] σ F H e (Fo ob fp) σ F' H' e (Fo ob' fp')/\aP K C F' H' σ e ob' fp':=by
 have nc:∀a,bi σ e H a->∀c,T c->a∉fp c:=λa h c hc z=>let⟨u,hu⟩:=hT c hc;R.own a ⟨_,hu,z⟩ h;have nf:∀a,¬Fo ob fp a->∀c,T c->a∉fp c:=λa h c hc z=>let⟨u,hu⟩:=hT c hc;h ⟨_,hu,z⟩;obtain⟨R2,o2⟩:=R.rel.keep sF sm (λa h=>by obtain⟨i,hi⟩:=h;obtain⟨h1,vs,h2⟩:=R.rel.fpAt hi;exact fr a h1 ⟨_,h2,.inl rfl⟩ (nc a ⟨i,hi⟩)) (λa o h q=>tmp a o q (nc a h));have sub:∀a,Fo ob' fp' a->Fo ob fp a\/H a=none:=by
  rintro a⟨p,hp,ha⟩;obtain⟨q,h1,h2,h3⟩:=hob p hp;rw[h2]at ha;by_cases z:T q.1
  ·rcases hfs _ z a ha with⟨d,w,k⟩|w;·obtain⟨u,hu⟩:=hT d w;exact .inl ⟨_,hu,k⟩
   ·exact .inr w
  ·rw[hfp _ z]at ha;exact .inl ⟨q,h1,ha⟩
 have dj:∀q∈ob,¬T q.1->∀a∈fp q.1,∀c,T c->a∉fp c:=λq hq nT a ha c hc=>by obtain⟨u,hu⟩:=hT c hc;exact R.dis q hq _ hu (λz=>nT (by rw[z];exact hc)) a ha
 refine⟨⟨sF,dom,λa vs h1 h2 _ h4=>fr a h1 ⟨_,h2,.inl rfl⟩ (nf a h4),lst,λa u h1 _ h3=>tmp a u h1 (nf a h3),λa z=>?_,λ_ _=>rfl,λa m h1 h2 _ h4=>fr a h1 ⟨_,h2,.inr m.2⟩ (nf a h4)⟩,R2,λp hp=>?_,?_,λa ha z=>?_⟩
 ·rcases z with z|z;·exact .inl (.inl ((o2 a).mp z))
  ·exact(sub a z).imp_left .inr
 ·obtain⟨q,h1,h2,h3⟩:=hob p hp;obtain⟨c1,v,c2,c3⟩:=R.obs q h1;rw[h2];refine⟨c1,v,c2.mono sF rfl,?_⟩;by_cases z:T q.1;·have:=ho p hp (by rw[h2];exact z) v (by rw[h2];exact c2);rw[h2]at this;exact this
  ·rw[h3 z,hfp _ z];have nq:=dj q h1 z;refine c3.mono sF (λa ha=>?_) λa ha=>?_;·obtain⟨g1,w,g2,g3⟩:=R.at ⟨q,h1,ha⟩;exact fr a g1 ⟨w,g2,.inl g3⟩ (nq a ha)
   ·obtain⟨g1,w,g2,g3⟩:=R.at ⟨q,h1,ha⟩;rw[g2];exact tmp a w g2 (nq a ha)
 ·intro p hp q hq hne a ha;obtain⟨p0,h1,h2,_⟩:=hob p hp;obtain⟨q0,g1,g2,_⟩:=hob q hq;rw[h2]at ha hne;rw[g2]at hne;rw[g2];by_cases z:T p0.1
  ·by_cases z2:T q0.1;·exact hdis _ _ z z2 hne a ha
   ·rw[hfp _ z2];intro w;rcases hfs _ z a ha with⟨d,k,k2⟩|k;·exact dj q0 g1 z2 a w d k k2
    ·exact R.hn a ⟨q0,g1,w⟩ k
  ·rw[hfp _ z]at ha;by_cases z2:T q0.1
   ·intro w;rcases hfs _ z2 a w with⟨d,k,k2⟩|k;·exact dj p0 h1 z a ha d k k2
    ·exact R.hn a ⟨p0,h1,ha⟩ k
   ·rw[hfp _ z2];exact R.dis p0 h1 q0 g1 hne a ha
 ·rcases sub a ha with w|w;·exact R.own a w ((o2 a).mp z)
  ·exact R.rel.ownH a ((o2 a).mp z) w
theorem aP.beside(R:aP K C F H σ e ob fp)(sF:ao F F')(sm:ao F' H')(dom:∀a,H' a=none->H a=none)(lst:∀a vs,H a=some (.lst vs)->∃vs',H' a=some (.lst vs'))(tmp:∀a u,H a=some u->H' a=some u)(fr:∀a,F a=none->(∃u,H a=some u/\(kept u=true\/B9 u=true))->F' a=none):bv [] σ F H e (Fo ob fp) σ F' H' e (Fo ob fp)/\aP K C F' H' σ e ob fp:=R.putM (ob':=ob) (fp':=fp) (λ_=>False) (λ_ h=>h.elim) (λp hp=>⟨p,hp,rfl,λ_=>rfl⟩) (λ_ _=>rfl) sF sm dom lst (λa u h _=>tmp a u h) (λa h1 h2 _=>fr a h1 h2) (λ_ h=>h.elim) (λ_ _ h=>h.elim) (λ_ _ h=>h.elim)
theorem uf{ds:List Rh}{i:Nat}{s:Sv}(h:((ds.map Sv.d).map some)[i]?=some (some s)):∃x,ds[i]?=some x/\s=.d x:=by rw[RY,RY]at h;cases q:ds[i]? with|none=>rw[q]at h;cases h|some x=>rw[q]at h;cases h;exact⟨x,rfl,rfl⟩
theorem nM{ds:List Rh}{σ:L2.St}{a:xM}:¬bi σ ((ds.map Sv.d).map some) H a:=by
 rintro⟨i,⟨xs,h,_⟩|⟨xss,_,_,h,_⟩⟩;·obtain⟨x,_,z⟩:=uf h;cases z
 ·obtain⟨x,_,z⟩:=uf h;cases z
theorem Lz(s:ao F H){ds:List Rh}{vs:List V}(h:aT K F ds vs):bf K F H (vs.map some) ((ds.map Sv.d).map some):=by
 refine⟨s,by simp[h.len],λi x hx=>?_,λi xs hx=>?_,λi xss hx=>?_,λi j a hi _=>absurd ⟨i,hi⟩ nM⟩;·obtain⟨y,h1,h2⟩:=uf hx;cases h2;obtain⟨v,g1,g2⟩:=h.get h1;exact⟨v,by rw[RY,g1];rfl,g2⟩
 ·obtain⟨x,_,z⟩:=uf hx;cases z
 ·obtain⟨x,_,z⟩:=uf hx;cases z
end
section
variable{X:Cx}{K:Rj}{C:xM}{fs:XA}{a:Rl}{es:List Rl}{pos:Pos}{σ:L2.St}{H:Hp}
def pA(n:Nat)(m:FM)(fs:XA):XE:=λx=>(fs x).bind λp=>(m (p.1.map .d)).bind λz=>if p.1.length=n/\rm z.1=true then(iE z.1).map λd=>(d,p.2) else none
theorem An{n:Nat}{m:FM}{Q:VK}{E:XK}(h:ir K C (pA n m fs) σ H Q):sx (eu K n m) [] E (EC K C fs) σ H Q:=by
 obtain⟨F,x,fp,z,x',R,hf,q⟩:=h;unfold pA at hf;obtain⟨⟨ds,x1⟩,h1,hf⟩:=Q6 hf;obtain⟨⟨r,as'⟩,h2,hf⟩:=Q6 hf;split at hf;case isFalse=>cases hf
 case isTrue hc=>
 obtain⟨d,h3,hf⟩:=Q7 hf;cases hf;refine⟨F,x,fp,ds,_,R,h1,λF1 H1 vs fp1 X1 R1 A1=>?_⟩;show eu K n m (vs++[]) H1 Q E;rw[SQ];have hn:noS r:=by have:=hc.2;cases r with|s i=>cases this|_=>trivial
 refine⟨by rw[<-A1.len];exact hc.1,F1,ds.map .d,r,as',Lz R1.rel.sm A1,λi xss z=>(by obtain⟨x,_,z⟩:=uf z;cases z),h2,hn,λF' H' v X3 R3 A3=>?_⟩;have stay:∀a u,H1 a=some u->H' a=some u:=λa u hu=>X3.tmp a u hu nM;obtain⟨Y,R4⟩:=R1.beside X3.sf R3.sm X3.dom X3.lst stay λa g1⟨u,g2,g3⟩=>by
  by_cases k:B9 u=true;·exact X3.fd a ⟨u,k⟩ g1 g2 nM
  ·rcases g3 with g3|g3;·cases u with|lst vs=>exact X3.fr a vs g1 g2 nM|ins c d fs=>exact absurd rfl k|_=>cases g3
   ·exact absurd g3 k
 have ow:∀a,bi σ x1.1 H' a->H1 a≠none:=λa z=>by
  rcases Y.own a (.inl z) with (w|w)|w;·exact R1.rel.ownH a w
  ·exact R1.hn a w
  ·intro _;exact R4.own a|>λ_=>by obtain⟨i,hi⟩:=z;have:=(R1.rel.keep X3.sf R3.sm (λa⟨i,h⟩=>by obtain⟨c1,vs,c2⟩:=R1.rel.fpAt h;exact X3.fr a vs c1 c2 nM) λa o _ h=>stay a o h).2 a;exact R1.rel.ownH a (this.mp ⟨i,hi⟩) w
 obtain⟨F4,Y4,R5,D⟩:=aP.toD Y R4 (λ_ z=>z) R1.hn (A3.noS hn ow) h3;exact q F4 H' v _ (X1.trans Y4) R5 D
theorem JA{x:Str}{st:Rx}{f:xM}{fd:RD}{ps:List Str}{k n:Nat}{m:FM}{p:Pos}(h:dO X.K X.mg x st f fd ps)(G:aG X.prog X.w X.K X.mg X.base ck k f fd ps (eu K n m))(hr:bX k X.A)(ha:PA X (a::es) (EC K C fs))(hg:Gl X x)(hdb:(x==("__debug__":Str))=false)(he:RB (a::es) X.env=(false,RC a X.env)::RB es X.env)(hpl:(RP pos (RB es X.env)).any (·.1)=false):PE X (.Call (.Name x p) (a::es) [] pos) (ir K C (pA n m fs)):=(Fy h G hr ha hg hdb he hpl).mono λ_ _ _ h=>An h
end
abbrev Ar:=Lc⊕Rh
abbrev XR:=EX->Option (List Ar×EX)
def mh(K:Rj)(F:Hp)(σ:L2.St):List Ar->List V->Prop|[],vs=>vs=[]|.inl c::r,vs=>∃v ws,vs=v::ws/\mj K F σ c v/\mh K F σ r ws|.inr d::r,vs=>∃v ws,vs=v::ws/\DA K F d v/\mh K F σ r ws
section
variable{K:Rj}{C:xM}{F H F' H':Hp}{σ:L2.St}{e:En}{ob ob' oc:gc}{fp fp':Lc->List xM}
theorem mh.len:∀{rs:List Ar}{vs:List V},mh K F σ rs vs->rs.length=vs.length|[],vs,h=>by rw[show vs=[]from h];rfl|.inl c::r,_,⟨v,ws,e,h1,h2⟩=>by rw[e];simp[mh.len h2]|.inr d::r,_,⟨v,ws,e,h1,h2⟩=>by rw[e];simp[mh.len h2]
theorem mh.d:∀{rs:List Ar}{vs:List V}{k:Nat}{d:Rh},mh K F σ rs vs->rs[k]?=some (.inr d)->∃v,vs[k]?=some v/\DA K F d v
 |[],_,k,d,_,h=>by simp at h|.inl c::r,_,k,d,⟨v,ws,e,h1,h2⟩,h=>by subst e;cases k with|zero=>simp at h|succ k=>simpa using mh.d h2 (by simpa using h)
 |.inr d'::r,_,k,d,⟨v,ws,e,h1,h2⟩,h=>by subst e;cases k with|zero=>simp at h;subst h;exact⟨v,rfl,h1⟩|succ k=>simpa using mh.d h2 (by simpa using h)
theorem mh.c:∀{rs:List Ar}{vs:List V}{k:Nat}{c:Lc},mh K F σ rs vs->rs[k]?=some (.inl c)->∃v,vs[k]?=some v/\mj K F σ c v
 |[],_,k,d,_,h=>by simp at h|.inl c'::r,_,k,c,⟨v,ws,e,h1,h2⟩,h=>by subst e;cases k with|zero=>simp at h;subst h;exact⟨v,rfl,h1⟩|succ k=>simpa using mh.c h2 (by simpa using h)
 |.inr d'::r,_,k,c,⟨v,ws,e,h1,h2⟩,h=>by subst e;cases k with|zero=>simp at h|succ k=>simpa using mh.c h2 (by simpa using h)
end
def lS(rs:List Ar):En:=rs.map λr=>match r with|.inl _=>none|.inr d=>some (.d d)
def lc(ob:gc):Nat->List Ar->Option gc|_,[]=>some []|k,.inl c::r=>(ob.lookup c).bind λo=>(lc ob (k+1) r).map ((Lc.s k,o)::·)|k,.inr _::r=>lc ob (k+1) r
def gR(oc:gc):Nat->List Ar->gc->Option gc|_,[],ob=>some ob|k,.inl c::r,ob=>(oc.lookup (.s k)).bind λo=>gR oc (k+1) r (kn c o ob)|k,.inr _::r,ob=>gR oc (k+1) r ob
def locs:List Ar->List Lc|[]=>[]|.inl c::r=>c::locs r|.inr _::r=>locs r
theorem jr{c:Lc}:∀{rs:List Ar},c∈locs rs↔∃k:Nat,rs[k]?=some (Sum.inl c)
 |[]=>by simp[locs]|.inl d::r=>by
  simp only[locs,Su,jr (rs:=r)];constructor
  ·rintro(rfl|⟨k,h⟩);·exact⟨0,rfl⟩
   ·exact⟨k+1,by simpa using h⟩
  ·rintro⟨k,h⟩;cases k with|zero=>simp at h;exact .inl h.symm|succ k=>exact .inr ⟨k,by simpa using h⟩
 |.inr d::r=>by
  simp only[locs,jr (rs:=r)];constructor;·rintro⟨k,h⟩;exact⟨k+1,by simpa using h⟩
  ·rintro⟨k,h⟩;cases k with|zero=>simp at h|succ k=>exact⟨k,by simpa using h⟩
theorem lJ{c:Lc}:∀{rs:List Ar}{k j:Nat},(locs rs).Nodup->rs[k]?=some (.inl c)->rs[j]?=some (.inl c)->k=j
 |[],k,j,_,h,_=>by simp at h|.inl d::r,k,j,hn,h1,h2=>by simp only[locs,Um]at hn;cases k with
  |zero=>simp at h1;subst h1;cases j with|zero=>rfl|succ j=>exact absurd (jr.mpr ⟨j,by simpa using h2⟩) hn.1
  |succ k=>cases j with|zero=>simp at h2;subst h2;exact absurd (jr.mpr ⟨k,by simpa using h1⟩) hn.1|succ j=>exact congrArg (·+1) (lJ hn.2 (by simpa using h1) (by simpa using h2))
 |.inr d::r,k,j,hn,h1,h2=>by cases k with|zero=>simp at h1|succ k=>cases j with|zero=>simp at h2|succ j=>exact congrArg (·+1) (lJ (rs:=r) hn (by simpa using h1) (by simpa using h2))
theorem jt{ob:gc}{p:Lc×Ob}:∀{rs:List Ar}{k:Nat}{oc:gc},lc ob k rs=some oc->p∈oc->∃j c,p.1=.s (k+j)/\rs[j]?=some (.inl c)/\ob.lookup c=some p.2
 |[],k,oc,h,hp=>by cases h;cases hp|.inl c::r,k,oc,h,hp=>by
  obtain⟨o,h1,h⟩:=Q6 h;obtain⟨oc',h2,rfl⟩:=Q7 h;rcases Re hp with rfl|hp;·exact⟨0,c,rfl,rfl,h1⟩
  ·obtain⟨j,d,g1,g2,g3⟩:=jt h2 hp;exact⟨j+1,d,by rw[g1];congr 1;lia,by simpa using g2,g3⟩|.inr d::r,k,oc,h,hp=>by obtain⟨j,d,g1,g2,g3⟩:=jt (rs:=r) (k:=k+1) h hp;exact⟨j+1,d,by rw[g1];congr 1;lia,by simpa using g2,g3⟩
theorem rB{ob:gc}:∀{rs:List Ar}{k j:Nat}{oc:gc}{c:Lc},lc ob k rs=some oc->rs[j]?=some (.inl c)->∃o,ob.lookup c=some o/\(Lc.s (k+j),o)∈oc
 |[],k,j,oc,c,h,hj=>by simp at hj|.inl d::r,k,j,oc,c,h,hj=>by obtain⟨o,h1,h⟩:=Q6 h;obtain⟨oc',h2,rfl⟩:=Q7 h;cases j with|zero=>simp at hj;subst hj;exact⟨o,h1,TN⟩|succ j=>obtain⟨o',g1,g2⟩:=rB (j:=j) h2 (by simpa using hj);refine⟨o',g1,SS _ ?_⟩;rw[show k+(j+1)=k+1+j by lia];exact g2
 |.inr d::r,k,j,oc,c,h,hj=>by cases j with|zero=>simp at hj|succ j=>obtain⟨o',g1,g2⟩:=rB (rs:=r) (k:=k+1) (j:=j) h (by simpa using hj);refine⟨o',g1,?_⟩;rw[show k+(j+1)=k+1+j by lia];exact g2
theorem lD{oc:gc}{p:Lc×Ob}:∀{rs:List Ar}{k:Nat}{ob ob':gc},gR oc k rs ob=some ob'->p∈ob'->∃q∈ob,p.1=q.1/\((p.1∉locs rs/\p.2=q.2)\/∃j,rs[j]?=some (.inl p.1)/\oc.lookup (.s (k+j))=some p.2)
 |[],k,ob,ob',h,hp=>by cases h;exact⟨p,hp,rfl,.inl ⟨by simp[locs],rfl⟩⟩|.inl c::r,k,ob,ob',h,hp=>by
  obtain⟨o,h1,h⟩:=Q6 h;obtain⟨q,g1,g2,g3⟩:=lD h hp;obtain⟨q',d1,d2,d3⟩:=k_.mp g1;refine⟨q',d1,g2.trans d2,?_⟩;rcases g3 with⟨g3,g4⟩|⟨j,g3,g4⟩
  ·by_cases z:q'.1=c
   ·rw[if_pos z]at d3;refine .inr ⟨0,?_,?_⟩;·rw[g2,d2,z];rfl
    ·rw[g4,d3];exact h1
   ·rw[if_neg z]at d3;refine .inl ⟨?_,g4.trans d3⟩;simp only[locs,Su];rintro(w|w);·exact z (by rw[<-d2,<-g2];exact w)
    ·exact g3 w
  ·exact .inr ⟨j+1,by simpa using g3,by rw[show k+(j+1)=k+1+j by lia];exact g4⟩|.inr d::r,k,ob,ob',h,hp=>by
  obtain⟨q,g1,g2,g3⟩:=lD (rs:=r) (k:=k+1) h hp;refine⟨q,g1,g2,?_⟩;rcases g3 with⟨g3,g4⟩|⟨j,g3,g4⟩;·exact .inl ⟨by simpa[locs]using g3,g4⟩
  ·exact .inr ⟨j+1,by simpa using g3,by rw[show k+(j+1)=k+1+j by lia];exact g4⟩
abbrev MX:=EX->Option (Rh×gc)
def vc(e:En):Bool:=e.all λs=>match s with|some (.l _)=>false|some (.n _)=>false|_=>true
theorem cU{σ:L2.St}{H:Hp}{e:En}(h:vc e=true){a:xM}:¬bi σ e H a:=by
 rintro⟨i,⟨xs,z,_⟩|⟨xss,_,_,z,_⟩⟩;·have:=Sk.mp h _ (Rf z);cases this
 ·have:=Sk.mp h _ (Rf z);cases this
def lY(K:Rj)(C:xM)(n:Nat)(m:MX):Sp:=λvs H Q _=>vs.length=n/\∃F x fp r oc,aP K C F H (vs.map some) x.1 x.2 fp/\vc x.1=true/\m x=some (r,oc)/\∀F' H' v fp',bv [] (vs.map some) F H x.1 (Fo x.2 fp) (vs.map some) F' H' x.1 (Fo oc fp')->aP K C F' H' (vs.map some) x.1 oc fp'->DA K F' r v->Q v H'
def Bn(K:Rj)(C:xM)(f:XR):TA:=λσ H Q=>∃F x fp rs x',aP K C F H σ x.1 x.2 fp/\f x=some (rs,x')/\∀F' H' vs fp',bv [] σ F H x.1 (Fo x.2 fp) σ F' H' x'.1 (Fo x'.2 fp')->aP K C F' H' σ x'.1 x'.2 fp'->mh K F' σ rs vs->Q vs H'
def ba(n:Nat)(m:MX)(fs:XR):XE:=λx=>(fs x).bind λp=>(lc p.2.2 0 p.1).bind λoc=>(m (lS p.1,oc)).bind λz=>(gR z.2 0 p.1 p.2.2).bind λob'=>if p.1.length=n/\(locs p.1).Nodup then some (z.1,(p.2.1,ob')) else none
section
variable{K:Rj}{C:xM}{σ:L2.St}{H:Hp}{fs:XR}
theorem jR{rs:List Ar}{k:Nat}{s:Option Sv}(h:(lS rs)[k]?=some s):(∃c,rs[k]?=some (.inl c)/\s=none)\/∃d,rs[k]?=some (.inr d)/\s=some (.d d):=by unfold lS at h;rw[RY]at h;cases q:rs[k]? with|none=>rw[q]at h;cases h|some r=>rw[q]at h;cases r with|inl c=>cases h;exact .inl ⟨c,rfl,rfl⟩|inr d=>cases h;exact .inr ⟨d,rfl,rfl⟩
theorem de(rs:List Ar):vc (lS rs)=true:=by refine Sk.mpr λs hs=>?_;obtain⟨k,hk⟩:=Va hs;rcases jR hk with⟨c,_,rfl⟩|⟨d,_,rfl⟩<;>rfl
theorem uH{n:Nat}{m:MX}{Q:VK}{E:XK}(h:ir K C (ba n m fs) σ H Q):sx (lY K C n m) [] E (Bn K C fs) σ H Q:=by
 obtain⟨F,x,fp,z,x',R,hf,q⟩:=h;unfold ba at hf;obtain⟨⟨rs,x1⟩,h1,hf⟩:=Q6 hf;obtain⟨oc,h2,hf⟩:=Q6 hf;obtain⟨⟨r,oc'⟩,h3,hf⟩:=Q6 hf;obtain⟨ob',h4,hf⟩:=Q6 hf;dsimp only at hf;split at hf;case isFalse=>cases hf
 case isTrue hc=>
 cases hf;obtain⟨hlen,hnd⟩:=hc;refine⟨F,x,fp,rs,x1,R,h1,λF1 H1 vs fp1 X1 R1 A1=>?_⟩;show lY K C n m (vs++[]) H1 Q E;rw[SQ];dsimp only at h2 h3 h4 hlen hnd;let fc:Lc->List xM:=λd=>match d with
  |.s k=>match rs[k]? with|some (.inl c)=>fp1 c|_=>[]
  |_=>[];have fcs:∀(k:Nat) (c:Lc),rs[k]?=some (Sum.inl c)->fc (.s k)=fp1 c:=λk c hk=>by show(match rs[k]? with|some (.inl c)=>fp1 c|_=>[])=_;rw[hk]
 have lk:∀{k:Nat}{c:Lc},rs[k]?=some (Sum.inl c)->∃o,(c,o)∈x1.2/\(Lc.s k,o)∈oc:=fun{k c}hk=>by obtain⟨o,g1,g2⟩:=rB h2 hk;exact⟨o,bF g1,by simpa using g2⟩
 have foc:∀a,Fo oc fc a↔∃(k:Nat) (c:Lc),rs[k]?=some (Sum.inl c)/\a∈fp1 c:=λa=>by
  constructor;·rintro⟨p,hp,ha⟩;obtain⟨j,c,g1,g2,g3⟩:=jt h2 hp;rw[g1,Ub,fcs j c g2]at ha;exact⟨j,c,g2,ha⟩
  ·rintro⟨k,c,hk,ha⟩;obtain⟨o,g1,g2⟩:=lk hk;exact⟨_,g2,by rw[fcs k c hk];exact ha⟩
 have Rc:aP K C F1 H1 (vs.map some) (lS rs) oc fc:=by
  refine⟨⟨R1.rel.sm,by unfold lS;simp[A1.len],λi y hy=>?_,λi ys hy=>?_,λi ys hy=>?_,λi j a hi _=>absurd ⟨i,hi⟩ (cU (de rs))⟩,λp hp=>?_,λp hp p' hp' hne a ha=>?_,λa _=>cU (de rs)⟩
  ·rcases jR hy with⟨_,_,w⟩|⟨d,hk,w⟩;·cases w
   ·cases w;obtain⟨v,g1,g2⟩:=A1.d hk;exact⟨v,by rw[RY,g1];rfl,g2⟩
  ·rcases jR hy with⟨_,_,w⟩|⟨_,_,w⟩<;>cases w
  ·rcases jR hy with⟨_,_,w⟩|⟨_,_,w⟩<;>cases w
  ·obtain⟨j,c,g1,g2,g3⟩:=jt h2 hp;rw[Ub]at g1;rw[g1];refine⟨by show(lS rs)[j]?=_;unfold lS;rw[RY,g2];rfl,?_⟩;obtain⟨v,c1,c2⟩:=A1.c g2;obtain⟨_,v',d1,d2⟩:=R1.obs _ (bF g3);refine⟨v,by show(vs.map some)[j]?=_;rw[RY,c1];rfl,?_⟩;rw[fcs j c g2];have:v=v':=c2.uniq d1;rw[this];exact d2
  ·obtain⟨j,c,g1,g2,g3⟩:=jt h2 hp;obtain⟨j',c',g1',g2',g3'⟩:=jt h2 hp';rw[Ub]at g1 g1';rw[g1,fcs j c g2]at ha;rw[g1',fcs j' c' g2'];refine R1.dis _ (bF g3) _ (bF g3') (λw=>hne ?_) a ha;dsimp only at w;subst w;rw[g1,g1',lJ hnd g2 g2']
 refine⟨by rw[<-A1.len];exact hlen,F1,(lS rs,oc),fc,z,oc',Rc,de rs,h3,λF' H' v fq X3 R3 A3=>?_⟩;have nO:∀a,¬bi (vs.map some) (lS rs) H1 a:=λa=>cU (de rs);let T:Lc->Prop:=λc=>c∈locs rs;have Tk:∀c,T c->∃k:Nat,rs[k]?=some (Sum.inl c):=λc h=>jr.mp h;have kT:∀{k:Nat}{c:Lc},rs[k]?=some (Sum.inl c)->T c:=λh=>jr.mpr ⟨_,h⟩;classical
 let fn:Lc->List xM:=λc=>if h:T c then(if (∃o,(Lc.s (Tk c h).choose,o)∈oc') then fq (.s (Tk c h).choose) else[]) else fp1 c;have fnk:∀(k:Nat) (c:Lc),rs[k]?=some (Sum.inl c)->(∃o,(Lc.s k,o)∈oc')->fn c=fq (.s k):=λk c hk ho=>by have hT:=kT hk;have:(Tk c hT).choose=k:=lJ hnd (Tk c hT).choose_spec hk;show(if h:T c then _ else _)=_;rw[dif_pos hT,this,if_pos ho]
 have fnm:∀c,T c->∀a∈fn c,∃k:Nat,rs[k]?=some (Sum.inl c)/\(∃o,(Lc.s k,o)∈oc')/\a∈fq (.s k):=λc hT a ha=>by
  have:fn c=if (∃o,(Lc.s (Tk c hT).choose,o)∈oc') then fq (.s (Tk c hT).choose) else[]:=dif_pos hT;rw[this]at ha;split at ha;·rename_i ho;exact⟨_,(Tk c hT).choose_spec,ho,ha⟩
  ·cases ha
 have toS:∀a,(∀c,T c->a∉fp1 c)->¬Fo oc fc a:=λa h z=>by obtain⟨k,c,g1,g2⟩:=(foc a).mp z;exact h c (kT g1) g2
 obtain⟨Y,R4⟩:=R1.putM (ob':=ob') (fp':=fn) (F':=F') (H':=H') T (λc hT=>by obtain⟨k,hk⟩:=Tk c hT;obtain⟨o,g1,_⟩:=lk hk;exact⟨o,g1⟩) (λp hp=>by
  obtain⟨q',g1,g2,g3⟩:=lD h4 hp;refine⟨q',g1,g2,λnT=>?_⟩;rcases g3 with⟨_,g3⟩|⟨j,g3,_⟩;·exact g3
  ·exact absurd (kT g3) (by rw[g2];exact nT)) (λc nT=>dif_neg nT) X3.sf R3.rel.sm X3.dom X3.lst (λa u hu hn=>X3.tmp a u hu (nO a) (toS a hn)) (λa g1⟨u,g2,g3⟩hn=>by
   by_cases k:B9 u=true;·exact X3.fd a ⟨u,k⟩ g1 g2 (nO a) (toS a hn)
   ·rcases g3 with g3|g3;·cases u with|lst us=>exact X3.fr a us g1 g2 (nO a) (toS a hn)|ins c d fs=>exact absurd rfl k|_=>cases g3
    ·exact absurd g3 k) (λc hT a ha=>by
   obtain⟨k,hk,⟨o,ho⟩,ha⟩:=fnm c hT a ha;rcases X3.own a (.inr ⟨_,ho,ha⟩) with (w|w)|w;·exact absurd w (nO a)
   ·obtain⟨k',c',g1,g2⟩:=(foc a).mp w;exact .inl ⟨c',kT g1,g2⟩
   ·exact .inr w) (λc d hT hT' hne a ha hb=>by obtain⟨k,hk,⟨o,ho⟩,ha⟩:=fnm c hT a ha;obtain⟨j,hj,⟨o',ho'⟩,hb⟩:=fnm d hT' a hb;refine R3.dis _ ho _ ho' (λw=>hne ?_) a ha hb;have:k=j:=Lc.s.inj w;subst this;rw[hk]at hj;exact Sum.inl.inj (SB hj)) (λp hp hT w hw=>by
   obtain⟨q',g1,g2,g3⟩:=lD h4 hp;rcases g3 with⟨g3,_⟩|⟨j,g3,g4⟩;·exact absurd hT g3
   ·rw[Ub]at g4;have hm:=bF g4;rw[fnk j _ g3 ⟨_,hm⟩];obtain⟨_,v',d1,d2⟩:=R3.obs _ hm;have d1:(vs.map some)[j]?=some (some v'):=d1;obtain⟨v2,c1,c2⟩:=A1.c g3;rw[RY,c1]at d1;cases d1;have:=c2.uniq hw;rw[<-this];exact d2);exact q F' H' v fn (X1.trans Y) R4 A3
end
section
variable{X:Cx}{K:Rj}{C:xM}{fa:XE}{fs:XR}{a:Rl}{es:List Rl}{pos:Pos}
def cc:XR:=λx=>some ([],x)
def bA(fa:XE)(fs:XR):XR:=λx=>(fa x).bind λp=>(fs p.2).map λq=>(.inr p.1::q.1,q.2)
def l4(i:Nat)(fs:XR):XR:=λx=>if (x.2.lookup (.s i)).isSome=true then(fs x).map λq=>(.inl (.s i)::q.1,q.2) else none
theorem cV:PA X [] (Bn K C cc):=fL.mono λσ H Q h=>by obtain⟨F,e,fp,r,e',R,hf,q⟩:=h;cases hf;exact q F H [] fp bv.refl R rfl
theorem cM(ha:PE X a (ir K C fa))(hr:PA X es (Bn K C fs))(h:TF a=false):PA X (a::es) (Bn K C (bA fa fs)):=(nV ha hr h).mono λσ H Q h=>by obtain⟨F,e,fp,z,e2,R,hf,q⟩:=h;unfold bA at hf;obtain⟨⟨x,e1⟩,h1,hf⟩:=Q6 hf;obtain⟨⟨xs,e2'⟩,h2,hf⟩:=Q7 hf;cases hf;refine⟨F,e,fp,x,e1,R,h1,λF1 H1 v fp1 X1 R1 A1=>⟨F1,e1,fp1,xs,_,R1,h2,λF2 H2 vs fp2 X2 R2 A2=>?_⟩⟩;exact q F2 H2 (v::vs) fp2 (X1.trans X2) R2 ⟨v,vs,rfl,A1.mono X2.sf,A2⟩
theorem lp{i:Nat}(ha:PE X a (mJ i))(hr:PA X es (Bn K C fs))(h:TF a=false):PA X (a::es) (Bn K C (l4 i fs)):=(nV ha hr h).mono λσ H Q h=>by
 obtain⟨F,e,fp,z,e2,R,hf,q⟩:=h;unfold l4 at hf;split at hf;case isFalse=>cases hf
 case isTrue hs=>obtain⟨⟨xs,e2'⟩,h2,hf⟩:=Q7 hf;cases hf;obtain⟨o,ho⟩:=UT.mp hs;obtain⟨_,v,g1,_⟩:=R.obs _ (bF ho);refine⟨v,g1,F,e,fp,xs,_,R,h2,λF2 H2 vs fp2 X2 R2 A2=>?_⟩;exact q F2 H2 (v::vs) fp2 X2 R2 ⟨v,vs,rfl,g1,A2⟩
theorem eS{x:Str}{st:Rx}{f:xM}{fd:RD}{ps:List Str}{k n:Nat}{m:MX}{p:Pos}(h:dO X.K X.mg x st f fd ps)(G:aG X.prog X.w X.K X.mg X.base ck k f fd ps (lY K C n m))(hr:bX k X.A)(ha:PA X (a::es) (Bn K C fs))(hg:Gl X x)(hdb:(x==("__debug__":Str))=false)(he:RB (a::es) X.env=(false,RC a X.env)::RB es X.env)(hpl:(RP pos (RB es X.env)).any (·.1)=false):PE X (.Call (.Name x p) (a::es) [] pos) (ir K C (ba n m fs)):=(Fy h G hr ha hg hdb he hpl).mono λ_ _ _ h=>uH h
end
def cy(n k:Nat)(W:List Nat)(f:XS):MX:=λx=>if x.1.length=n/\(x.2.all λp=>decide (p.1.slot<n))=true then(f (x.1++RF k none,x.2)).bind λfl=>match fl with|.rt r y=>if iY W (y.2.filter λp=>decide (p.1.slot<n))=true/\okO (y.2.filter λp=>decide (p.1.slot<n)) x.1=true then some (r,y.2.filter λp=>decide (p.1.slot<n)) else none|.nx y=>if iY W (y.2.filter λp=>decide (p.1.slot<n))=true/\okO (y.2.filter λp=>decide (p.1.slot<n)) x.1=true then some (.none,y.2.filter λp=>decide (p.1.slot<n)) else none|_=>none else none
section
variable{P:Rw}{w:Ro}{K:Rj}{C:xM}{mg:Str->Option Oq}{base:Ru}
theorem Hl{F F' H H':Hp}{σ:L2.St}{e:En}(R:bf K F H σ e)(h:vc e=true)(s:ao F F')(sm:ao F' H'):bf K F' H' σ e:=by
 have no:∀{i:Nat}{s:Sv},e[i]?=some (some s)->(∃x,s=.d x):=fun{i s}z=>by have:=Sk.mp h _ (Rf z);cases s with|d x=>exact⟨x,rfl⟩|l x=>cases this|n x=>cases this
 refine⟨sm,R.len,λi x hx=>let⟨v,h1,h2⟩:=R.dat i x hx;⟨v,h1,h2.mono s⟩,λi xs hx=>?_,λi xs hx=>?_,λi j a hi _=>absurd ⟨i,hi⟩ (cU h)⟩;·obtain⟨x,z⟩:=no hx;cases z
 ·obtain⟨x,z⟩:=no hx;cases z
theorem wy.okY{x qual:Str}{st:Rx}{f:xM}{fd:RD}{N ps:List Str}{k n k0:Nat}{W:List Nat}{fb:XS}(hF:wy K x qual st f fd)(S:ay N ps (aj st))(hn:ps.length=n)(hN:N.length=n+k0)(hb:∀(cdv:Oq) (A:Rz) (outer:List Env) (s:Rg) (H:Hp) (E:XK),bX k (A.deeper (envOfC qual (aj st) s.heap.objs.size f cdv))->ke (wR ck P w K mg base N qual (aj st) f cdv A outer s H E).nox (cH st) (qe K C fb W)):aG P w K mg base ck (k+1) f fd ps (lY K C n (cy n k0 W fb)):=by
 refine hF.ok S (λvs H Q E q=>?_) λcdv A outer s H vs Q E hr hsp=>⟨_,hb cdv A outer s H E hr,?_⟩;·rw[hn];exact q.1
 ·obtain⟨hl,F,x,fp,r,oc,R,hd,hm,q⟩:=hsp;unfold cy at hm;split at hm;case isFalse=>cases hm
  case isTrue hc=>
  obtain⟨la,lo⟩:=hc;obtain⟨fl,h1,hm⟩:=Q6 hm;have hst:i5 N vs=vs.map some++RF k0 none:=by unfold i5;rw[hN,hl];congr 2;lia
  rw[hst];have lt:∀p∈x.2,p.1.slot<n:=λp hp=>by simpa using Sk.mp lo p hp
  have gv:∀j,j<n->(vs.map some++RF k0 none)[j]?=(vs.map some)[j]?:=λj hj=>TC (by rw[RQ,hl];exact hj);have ge:∀j,j<n->(x.1++RF k0 none)[j]?=x.1[j]?:=λj hj=>TC (by rw[la];exact hj);have lcp:∀{F:Hp}{σ σ':L2.St}{c:Lc}{v:V},mj K F σ c v->σ'[c.slot]?=σ[c.slot]?->mj K F σ' c v:=λh e=>h.mono (ao.refl _) e;have Rp:aP K C F H (vs.map some++RF k0 none) (x.1++RF k0 none) x.2 fp:=⟨R.rel.pad,λp hp=>by obtain⟨c1,v,c2,c3⟩:=R.obs p hp;exact⟨by rw[ge _ (lt p hp)];exact c1,v,lcp c2 (gv _ (lt p hp)),c3⟩,R.dis,λa ha z=>R.own a ha (ii.mp z)⟩;have key:∀{y:EX},iY W (y.2.filter λp=>decide (p.1.slot<n))=true/\okO (y.2.filter λp=>decide (p.1.slot<n)) x.1=true->∀F' H' σ' fp',bv W (vs.map some++RF k0 none) F H (x.1++RF k0 none) (Fo x.2 fp) σ' F' H' y.1 (Fo y.2 fp')->aP K C F' H' σ' y.1 y.2 fp'->bv [] (vs.map some) F H x.1 (Fo x.2 fp) (vs.map some) F' H' x.1 (Fo (y.2.filter λp=>decide (p.1.slot<n)) fp')/\aP K C F' H' (vs.map some) x.1 (y.2.filter λp=>decide (p.1.slot<n)) fp':=by
   intro y hk F' H' σ' fp' X' R';have sub:∀a,Fo (y.2.filter λp=>decide (p.1.slot<n)) fp' a->Fo y.2 fp' a:=λa⟨p,hp,ha⟩=>⟨p,(Tj.mp hp).1,ha⟩;refine⟨⟨X'.sf,X'.dom,λa us h1 h2 hn=>X'.fr a us h1 h2 λz=>hn (ii.mp z),X'.lst,λa o ha hn=>X'.tmp a o ha λz=>hn (ii.mp z),λa z=>?_,λ_ _=>rfl,λa m h1 h2 hn=>X'.fd a m h1 h2 λz=>hn (ii.mp z)⟩,⟨Hl R.rel hd X'.sf R'.rel.sm,λp hp=>?_,λp hp q hq=>R'.dis p (Tj.mp hp).1 q (Tj.mp hq).1,λa ha=>cU hd⟩⟩
   ·rcases z with z|z;·exact absurd z (cU hd)
    ·exact(X'.own a (.inr (sub a z))).imp_left λw=>w.imp_left ii.mp
   ·have hp':=Tj.mp hp;have hs:p.1.slot<n:=by simpa using hp'.2
    obtain⟨_,v,c2,c3⟩:=R'.obs p hp'.1;exact⟨CL hk.2 hp,v,lcp c2 (by rw[X'.wr _ (rD hk.1 p hp),gv _ hs]),c3⟩
  refine⟨F,(x.1++RF k0 none,x.2),fp,fl,Rp,h1,?_⟩;cases fl with|bk e'=>cases hm|ct e'=>cases hm|nx y=>
   dsimp only at hm;split at hm;case isFalse=>cases hm
   case isTrue hk=>cases hm;intro F' H' σ' fp' X' R';obtain⟨X2,R2⟩:=key hk F' H' σ' fp' X' R';exact q F' H' .non fp' X2 R2 ((fZ (K:=K) (F:=F')).mpr rfl)|rt r0 y=>
   dsimp only at hm;split at hm;case isFalse=>cases hm
   case isTrue hk=>cases hm;intro F' H' σ' v fp' X' R' A';obtain⟨X2,R2⟩:=key hk F' H' σ' fp' X' R';exact q F' H' v fp' X2 R2 A'
end
section
variable{X:Cx}{K:Rj}{C:xM}{W W1 W2:List Nat}{f:XS}{ft:XT}{pos:Pos}
def je(ft:XT)(f:XS):Nat->EX->Option J9|0,_=>none|m+1,e=>(ft e).bind λp=>if p.1=true then(f p.2).bind λfl=>match fl with|.nx e1=>je ft f m e1|.ct e1=>je ft f m e1|.bk e1=>some (.nx e1)|.rt r e1=>some (.rt r e1)else some (.nx p.2)
def v0(n:Nat)(ft:XT)(f:XS):XS:=je ft f n
theorem A6{n:Nat}{c:Rl}{body:List Rx}(hp:Uu (Ry X.prog X.w) X.A X.env X.xe)(hc:PT X c (sT K C ft))(hb:ke X body (qe K C f W)):PS X (.While c body [] pos) (qe K C (v0 n ft f) W):=(xE hp hc hb).mono λD σ H h=>by refine⟨λm σ H=>∃F,∃e:EX,∃fp fl,aP K C F H σ e.1 e.2 fp/\je ft f m e=some fl/\jk K C W σ F H e.1 (Fo e.2 fp) D fl,⟨n,h⟩,?_⟩;rintro m σ H⟨F,e,fp,fl,R,hf,q⟩;cases m with|zero=>cases hf|succ m=>
 unfold je at hf;obtain⟨⟨x,e1⟩,h1,hf⟩:=Q6 hf;refine⟨F,e,fp,x,e1,R,h1,λF1 H1 fp1 X1 R1=>?_⟩;have sub:∀j,j∈([]:List Nat)->j∈W:=λj h=>by cases h
 cases x with|false=>rw[if_neg (by simp)]at hf;cases hf;exact Ic (q F1 H1 σ fp1 (X1.mono sub) R1)|true=>rw[if_pos rfl]at hf;refine Ie ?_;obtain⟨fl1,h2,hf⟩:=Q6 hf;have q1:jk K C W σ F1 H1 e1.1 (Fo e1.2 fp1) D fl:=q.later (W1:=[]) X1 sub λj h=>h;refine⟨λσ' H'=>∃F',∃e':EX,∃fp',aP K C F' H' σ' e'.1 e'.2 fp'/\je ft f m e'=some fl/\jk K C W σ' F' H' e'.1 (Fo e'.2 fp') D fl,λσ' H'⟨F',e',fp',r1,r2,r3⟩=>⟨m,Vn m,F',e',fp',fl,r1,r2,r3⟩,F1,e1,fp1,fl1,R1,h2,?_⟩;cases fl1 with|nx e2=>exactλF2 H2 σ2 fp2 x R2=>⟨F2,e2,fp2,R2,hf,q1.later x (λj h=>h) λj h=>h⟩|ct e2=>exactλF2 H2 σ2 fp2 x R2=>⟨F2,e2,fp2,R2,hf,q1.later x (λj h=>h) λj h=>h⟩|bk e2=>cases hf;exactλF2 H2 σ2 fp2 x R2=>q1 F2 H2 σ2 fp2 x R2|rt r e2=>cases hf;exactλF2 H2 σ2 v fp2 x R2 A=>q1 F2 H2 σ2 v fp2 x R2 A
noncomputable def wW(W1:List Nat)(g:FG)(f:XS):List Rh->EX->Option J9|[],x=>some (.nx x)|d::r,x=>if iY W1 x.2=true then(g d x.1).bind λe1=>if okO x.2 e1=true then(f (e1,x.2)).bind λfl=>match fl with|.nx x2=>wW W1 g f r x2|.ct x2=>wW W1 g f r x2|.bk x2=>some (.nx x2)|.rt v x2=>some (.rt v x2)else none else none
noncomputable def xJ(W1:List Nat)(fi:FI)(g:FG)(f:XS):XS:=λx=>(fi x.1).bind λp=>if p.2.1.isEmpty=true/\okO x.2 p.2.2=true then wW W1 g f p.1 (p.2.2,x.2) else none
inductive Hx (K:Rj) (C:xM) (F1:Hp) (P:EX->Prop) (G:L2.St->Hp->Hp->En->(xM->Prop)->Prop) (σ:L2.St) (H:Hp):Prop|mk{F:Hp}{x:EX}{fp:Lc->List xM}(R:aP K C F H σ x.1 x.2 fp) (sF:ao F1 F) (hf:P x) (q:G σ F H x.1 (Fo x.2 fp)):Hx K C F1 P G σ H
theorem F8{tg iter:Rl}{body:List Rx}{fi:FI}{gg:FG}(hp:Uu (Ry X.prog X.w) X.A X.env X.xe)(hc:X.calm=true)(hi:PI X tg iter (fI K fi))(hg:PG X tg (fG K gg W1))(hb:ke X body (qe K C f W2))(hs:∀x,Uh iter X.env x=pure x):PS X (.For tg iter body [] pos) (qe K C (xJ W1 fi gg f) (W1++W2)):=(yT hp hc hi hg hb hs).mono λD σ0 H0 hh=>by
 obtain⟨F0,x0,fp0,fl,R0,hf,q0⟩:=hh;unfold xJ at hf;obtain⟨⟨items,own,e1⟩,hI,hf⟩:=Q6 hf;dsimp only at hf;split at hf;case isFalse=>cases hf
 case isTrue ho=>
 obtain⟨ho,hok⟩:=ho;have ho:=List.isEmpty_iff.mp ho;subst ho;refine⟨F0,x0.1,items,[],e1,R0.rel,hI,λJ F1 H1 X1 R1 kp ok=>?_⟩;have s1:∀j,j∈W1->j∈W1++W2:=λj h=>SH.mpr (.inl h);have s2:∀j,j∈W2->j∈W1++W2:=λj h=>SH.mpr (.inr h);have s0:∀j,j∈([]:List Nat)->j∈W1++W2:=λj h=>by cases h
 obtain⟨Y1,R1X⟩:=R0.pure X1 R1 hok;have q1:jk K C (W1++W2) σ0 F1 H1 e1 (Fo x0.2 fp0) D fl:=q0.later (W1:=[]) Y1 s0 λj h=>h;refine⟨λk m σ H=>m=items.length-k/\k<=items.length/\Hx K C F1 (λx=>wW W1 gg f (items.drop k) x=some fl) (λσ F H e S=>jk K C (W1++W2) σ F H e S D fl) σ H,⟨items.length,by simp,Tq _,.mk (x:=(e1,x0.2)) R1X (ao.refl _) hf q1⟩,?_⟩;rintro k m σ H⟨rfl,hk,⟨R,sF,hf,q⟩⟩;rename_i F x fp;obtain⟨go,stop,yld⟩:=ok F H sF R.rel.sm (λp hp=>by cases hp);by_cases hlt:k<items.length
 ·have hd:items.drop k=items[k]::items.drop (k+1):=Vb hlt;rw[hd]at hf;unfold wW at hf;split at hf;case isFalse=>cases hf
  case isTrue hw=>
  obtain⟨e2,h2,hf⟩:=Q6 hf;split at hf;case isFalse=>cases hf
  case isTrue hok2=>obtain⟨fl2,h3,hf⟩:=Q6 hf;refine .inr ⟨go k hlt,Hx K C F1 (λx=>wW W1 gg f (items.drop (k+1)) x=some fl) (λσ F H e S=>jk K C (W1++W2) σ F H e S D fl),λσ' H' r=>⟨items.length-(k+1),by lia,rfl,hlt,r⟩,λy H' hy=>?_⟩;obtain⟨F',sH,sF',sm',fz,hx⟩:=yld k items[k] y H' (SN hlt) hy;obtain⟨R',X'⟩:=R.rel.step sH sF' sm' fz;obtain⟨Y2,R2X⟩:=R.pure0 X' R';refine⟨F',_,items[k],e2,R',hx,h2,λσ2 x2 R2=>?_⟩;obtain⟨Y3,R3X⟩:=R2X.next x2 (rD hw) hok2 R2;refine⟨F',(e2,x.2),fp,fl2,R3X,h3,?_⟩;have q2:jk K C (W1++W2) σ2 F' H' e2 (Fo x.2 fp) D fl:=(q.later (W1:=[]) (W2:=W1++W2) Y2 s0 λj h=>h).later Y3 s1 λj h=>h;cases fl2 with|nx x3=>exactλF3 H3 σ3 fp3 y3 R3=>.mk R3 (sF.trans (sF'.trans y3.sf)) hf (q2.later y3 s2 λj h=>h)|ct x3=>exactλF3 H3 σ3 fp3 y3 R3=>.mk R3 (sF.trans (sF'.trans y3.sf)) hf (q2.later y3 s2 λj h=>h)|bk x3=>cases hf;exactλF3 H3 σ3 fp3 y3 R3=>q2 F3 H3 σ3 fp3 (y3.mono s2) R3|rt r x3=>cases hf;exactλF3 H3 σ3 v fp3 y3 R3 A3=>q2 F3 H3 σ3 v fp3 (y3.mono s2) R3 A3
 ·have hd:items.drop k=[]:=Vc (by lia);rw[hd]at hf;cases hf;exact .inl ⟨stop k (by lia),q F H σ fp bv.refl R⟩
end
section
variable{X:Cx}{K:Rj}{a b:Rl}{es:List Rl}{fa fb:FE}{fs:FA}{pos apos cpos p2:Pos}{lo hi:Option Rl}
def Lx:V->Option Int->Option Int->Hp->VK->Prop:=λx lo hi H Q=>∃y,x=.str y/\y.length<=RH/\Q (.str (SX y lo hi)) H
theorem rE{v:Oq}{o:Option Int}(h:IsPart v o):∃l:Option (Int×Tok),v=partValue l/\o=l.map (·.1):=by cases h with|none=>exact⟨none,rfl,rfl⟩|int i t=>exact⟨some (i,t),rfl,rfl⟩
theorem DT:Ee X Lx:=by intro pins s σ H x v vl vu lo hi sl Q I rx hs pl pu h;obtain⟨y,rfl,hz,q⟩:=h;obtain⟨t,rfl⟩:=rx;obtain⟨l,rfl,rfl⟩:=rE pl;obtain⟨u,rfl,rfl⟩:=rE pu;refine⟨"str",_,F.slot_str_getitem.lookup,typeIs_str _ _ _,wpAny_getItem_str_slice (l:=l) (u:=u) (st:=none) hs rfl ?_⟩;refine post_val_or_str ⟨Sl (Txt.slice_le y (l.map (·.1)) (u.map (·.1))) hz,λt' k=>⟨.str _,H,I.tok _,⟨_,rfl⟩,q⟩⟩
def l5(fa:FE)(fl fh:FO):FE:=λe=>(fa e).bind λp=>(fl p.2).bind λl=>(fh l.2).bind λh=>(bN p.1).bind λy=>if y.length<=1000000 then some (.d (.str (SX y l.1 h.1)),h.2) else none
theorem xF{fl fh:FO}(he:PE X a (fE K fa))(hl:PO X lo (fO K fl))(hh:PO X hi (fO K fh)):PE X (.Subscript a (.Slice lo hi none p2) pos) (fE K (l5 fa fl fh)):=(rG DT he hl hh).mono λσ H Q h=>by
 obtain⟨F,e,z,e',R,hf,q⟩:=h;unfold l5 at hf;obtain⟨⟨x,e1⟩,h1,hf⟩:=Q6 hf;obtain⟨⟨l,e2⟩,h2,hf⟩:=Q6 hf;obtain⟨⟨u,e3⟩,h3,hf⟩:=Q6 hf;obtain⟨y,h4,hf⟩:=Q6 hf;split at hf;case isFalse=>cases hf
 case isTrue hz=>cases hf;refine⟨F,e,x,e1,R,h1,λF1 H1 v X1 R1 A1=>⟨F1,e1,l,e2,R1,h2,λF2 H2 X2 R2=>⟨F2,e2,u,_,R2,h3,λF3 H3 X3 R3=>?_⟩⟩⟩;have sl:RH=16777216:=SK;exact⟨y,dW ((A1.ext X2).ext X3) h4,by lia,q F3 H3 _ ((X1.trans X2).trans X3) R3 pj⟩
def jT:En->Rv->Option Rv:=λ_ x=>(bN x).bind λy=>if y.length<=640 then(Ve y).map λn=>.d (.int n) else none
def Dt:V->Hp->VK->Prop:=λv H Q=>∃y n,v=.str y/\y.length<=640/\Ve y=some n/\Q (.int n) H
theorem yo:dN X (.type "int") (λxs H Q=>∃v,xs=[v]/\Dt v H Q):=by intro pins s σ H xs us Q I r h;obtain⟨v,rfl,y,n,rfl,h1,h2,q⟩:=h;obtain⟨u,rfl,ru⟩:=j6 r;obtain⟨t,rfl⟩:=ru;exact PySem.W.KIN.call_text h2 h1 ⟨.int n,H,I.tok _,⟨_,rfl⟩,q⟩
theorem EM:dH K (λxs H Q=>∃v,xs=[v]/\Dt v H Q) (g1 jT):=fY λσ H0 F H e x z v Q R A hg q=>by
 unfold jT at hg;obtain⟨y,h1,hg⟩:=Q6 hg;split at hg;case isFalse=>cases hg
 case isTrue hl=>obtain⟨n,h2,hg⟩:=Q7 hg;cases hg;exact⟨v,rfl,y,n,dW A h1,hl,h2,q F H _ (dX.refl _ _ _ _) R (show DA K F (.int n) (.int n) from cq.mpr rfl)⟩
theorem zw:mi X K "int" (g1 jT):=⟨.inr ⟨_,_,yo,EM,PyProof.Rows.boot_int⟩⟩
def oR:En->Rv->Option Rv:=λ_ x=>(bN x).bind λy=>if y.length<=1000000 then some (.d (.int y.length)) else none
theorem yp:dN X (.builtin "len") (λxs H Q=>∃v,xs=[v]/\∃y:Str,v=.str y/\y.length<=1000000/\Q (.int y.length) H):=by intro pins s σ H xs us Q I r h;obtain⟨v,rfl,y,rfl,h1,q⟩:=h;obtain⟨u,rfl,ru⟩:=j6 r;obtain⟨t,rfl⟩:=ru;exact len_str (by lia) ⟨.int _,H,I.tok _,⟨_,rfl⟩,q⟩
theorem EY:dH K (λxs H Q=>∃v,xs=[v]/\∃y:Str,v=.str y/\y.length<=1000000/\Q (.int y.length) H) (g1 oR):=fY λσ H0 F H e x z v Q R A hg q=>by
 unfold oR at hg;obtain⟨y,h1,hg⟩:=Q6 hg;split at hg;case isFalse=>cases hg
 case isTrue hl=>cases hg;exact⟨v,rfl,y,dW A h1,hl,q F H _ (dX.refl _ _ _ _) R (show DA K F (.int _) (.int _) from cq.mpr rfl)⟩
theorem Eu:mi X K "len" (g1 oR):=⟨.inl ⟨_,_,yp,EY,PySem.boot_len⟩⟩
def JL:V->List V->Hp->VK->Prop:=λx vs H Q=>∃y z:Str,x=.str y/\vs=[.str z]/\(z.length==0)=false/\y.length+2<=RH/\∀l,H l=none->Q (.ref l) (bg H l (.lst ((TK y z).map V.str)))
theorem p7:∀{l:List (Str×Tok)},aW ((l.map (·.1)).map V.str) (strValues l)|[]=>.nil|p::r=>.cons ⟨p.2,rfl⟩ (p7 (l:=r))
theorem Cu:HA X "str.split" JL:=by
 intro pins s σ H x xs v us Q I rx rs h;obtain⟨y,z,rfl,rfl,hz,hl,q⟩:=h;obtain⟨t,rfl⟩:=rx;obtain⟨w,rfl,rw0⟩:=j6 rs;obtain⟨u,rfl⟩:=rw0;have key:∀(l:List (Str×Tok)) (k:Nat),l.map (·.1)=TK y z->EP X pins σ Q (.ref s.heap.objs.size) {s with heap:=s.heap.push {cls:=.type "list",data:=.seq (strValues l).toArray},toks:=k}:=λl k hk=>by
  have hlen:l.length<=RH:=by
   have h1:l.length=(TK y z).length:=by rw[<-hk,RQ]
   have h2:(TK y z).length<=y.length+2:=by
    unfold TK;split;·simp
    ·split;·simp
     ·have e1:=StrLaws.occ_length_le y z 0 y.length (y.length+1);rw[length_partsBetween];lia
   lia
  refine⟨.ref s.heap.objs.size,_,I.laid (t':=k) (o:=.lst ((TK y z).map V.str)) (λb ob q=>Sf _ q) (RL _) ?_,rfl,q _ (I.hok.fresh (RL _))⟩;refine⟨by rw[RQ,<-hk,RQ];exact hlen,strValues l,0,by rw[<-hk];exact p7,SA _ rfl⟩
 have hn:(Builtin.Str.partsBetween y (Wh y z 0 y.length (y.length+1)) z.length).length<=RH:=by have e1:=StrLaws.occ_length_le y z 0 y.length (y.length+1);rw[length_partsBetween];lia
 cases h1:(decide (y.length<z.length)||decide (Builtin.Str.strKind y<Builtin.Str.strKind z))
 ·cases hf:(Wh y z 0 y.length (y.length+1)).isEmpty;·refine Tr VH (typeIs_str _ _ _) F.entry_str_split (F.args_str_split_2 _ _) (meets_str_split_sep y z t u h1 hz hf (by lia) hn) ?_;show EP X pins σ Q _ {s with toks:=_,heap:=s.heap.push {cls:=.type "list",data:=.seq (strsFrom s.toks (Builtin.Str.partsBetween y (Wh y z 0 y.length (y.length+1)) z.length)).toArray}};rw[strsFrom_eq];exact key (numbered s.toks _) _ ((numbered_texts _ _).trans ((if_neg (ne_true_of_eq_false h1)).trans (if_neg (ne_true_of_eq_false hf))).symm)
  ·exact Tr VH (typeIs_str _ _ _) F.entry_str_split (F.args_str_split_2 _ _) (meets_str_split_not_found y z t u h1 hz hf) (key [(y,t)] s.toks ((if_neg (ne_true_of_eq_false h1)).trans (if_pos hf)).symm)
 ·exact Tr VH (typeIs_str _ _ _) F.entry_str_split (F.args_str_split_2 _ _) (meets_str_split_cannot_occur y z t u h1) (key [(y,t)] s.toks (if_pos h1).symm)
def k9:En->Rv->Rv->Option Rv:=λ_ x y=>(bN x).bind λu=>(bN y).bind λv=>if v.length≠0/\u.length<=1000000 then some (.l ((TK u v).map .str)) else none
theorem qN{F:Hp}:∀(ys:List Str),aT K F (ys.map .str) (ys.map V.str)|[]=>aT.nil|y::ys=>.cons (jQ.mpr rfl) (qN ys)
theorem FX(ha:PE X a (fE K fa))(hb:PE X b (fE K fb))(hbase:SU a "split" X.env (RC a X.env)=RC a X.env)(hfew:((RP cpos (RB [b] X.env)).all (λx=>!x.1)&&(Tz cpos (TB [] X.env)).all (λx=>x.1.isSome)&&decide (([b]:List Rl).length+([]:List SL).length+(if ([]:List SL).isEmpty then 0 else 1)<30))=true)(hline:(apos.endLine==cpos.line)=true)(hs:RB [b] X.env=(false,RC b X.env)::RB [] X.env)(hplain:(RP cpos (RB [] X.env)).any (·.1)=false):PE X (.Call (.Attribute a "split" apos) [b] [] cpos) (fE K (aA k9 fa fb)):=(CQ Wg VH PySem.F.type_str_split Cu ha (nU hb fL hs) hbase hfew hline hs hplain).mono λσ H Q h=>by
 obtain⟨F,e,r,e',R,hf,q⟩:=h;unfold aA at hf;obtain⟨⟨x,e1⟩,h1,hf⟩:=Q6 hf;obtain⟨⟨y,e2⟩,h2,hf⟩:=Q6 hf;obtain⟨z,h3,hf⟩:=Q7 hf;cases hf;unfold k9 at h3;obtain⟨u,g1,h3⟩:=Q6 h3;obtain⟨v,g2,h3⟩:=Q6 h3;split at h3;case isFalse=>cases h3
 case isTrue hc=>
 cases h3;refine⟨F,e,x,e1,R,h1,λF1 H1 w X1 R1 A1=>?_⟩;have ew:=dW A1 g1;refine⟨?_,F1,e1,y,_,R1,h2,λF2 H2 w2 X2 R2 A2=>?_⟩;·rw[ew];trivial
 have ew2:=dW A2 g2;have sl:RH=16777216:=SK;refine⟨u,v,ew,by rw[ew2],by simpa using hc.1,by lia,λl hl=>?_⟩;obtain⟨R3,X3,hF,no⟩:=R2.newL (vs:=(TK u v).map V.str) hl;exact q F2 _ _ ((X1.trans X2).trans X3) R3 ⟨l,_,rfl,X1.dom _ (X2.dom _ hl),hF,au,qN _,no⟩
def JH:V->List V->Hp->VK->Prop:=λx vs H Q=>∃y,x=.str y/\vs=[]/\Q (.bl (Vf y)) H
theorem IQ:HA X "str.isdecimal" JH:=by intro pins s σ H x xs v us Q I rx rs h;obtain⟨y,rfl,rfl,q⟩:=h;obtain⟨t,rfl⟩:=rx;have:=rs.zero;subst this;exact PySem.SC.isdecimal ⟨.bl _,H,I,rfl,q⟩
def vG:En->Rv->Option Rv:=λ_ x=>(bN x).map λu=>.d (.bool (Vf u))
theorem Li(ha:PE X a (fE K fa))(hbase:SU a "isdecimal" X.env (RC a X.env)=RC a X.env)(hline:(apos.endLine==cpos.line)=true):PE X (.Call (.Attribute a "isdecimal" apos) [] [] cpos) (fE K (ww vG fa)):=(CS Wg PySem.F.slot_str_isdecimal PySem.F.type_str_isdecimal IQ ha hbase hline).mono λσ H Q h=>by obtain⟨F,e,r,e',R,hf,q⟩:=h;unfold ww at hf;obtain⟨⟨x,e1⟩,h1,hf⟩:=Q6 hf;obtain⟨z,h3,hf⟩:=Q7 hf;cases hf;obtain⟨u,g1,rfl⟩:=Q7 h3;refine⟨F,e,x,_,R,h1,λF1 H1 w X1 R1 A1=>?_⟩;have ew:=dW A1 g1;exact⟨by rw[ew];trivial,u,ew,rfl,q F1 H1 _ X1 R1 eU⟩
def oY:List Rh->List Rh->Option (Rh×List Rh):=λxs ds=>match ds with|[]=>some (.none,[])|_=>none
theorem Ez:qE K Ds oY:=by intro F H l xs ys ds z vs us Q hF sm hl d1 d2 hg q;unfold oY at hg;match ds,hg,d2 with|[],hg,d2=>simp only[aT]at d2;subst d2;cases hg;exact⟨l,vs,rfl,rfl,hl,q _ _ (fZ.mpr rfl) aT.nil⟩
theorem FV(hK:X.K=K)(ho:PE X a (fE K fa))(hbase:SU a "clear" X.env (RC a X.env)=RC a X.env)(hline:(apos.endLine==cpos.line)=true):PE X (.Call (.Attribute a "clear" apos) [] [] cpos) (fE K (cx oY fa ah)):=by subst hK;exact Dh PySem.F.slot_list_clear PySem.F.type_list_clear Cs Ez ho hbase hline
end
section
variable{X:Cx}{K:Rj}{C:xM}{fa fb:XE}{fs:XR}{a b:Rl}{es:List Rl}{aB:List Rx}{pos apos p p2:Pos}
def lZ(i:Nat)(nm:Str)(fs:XR):XR:=λx=>match x.2.lookup (.s i) with|some (.dk gs)=>if (gs.lookup nm).isNone=true then(fs x).map λq=>(.inl (.s i)::q.1,q.2) else none|_=>none
theorem uJ{i n:Nat}{nm:Str}{m:MX}{σ:L2.St}{H:Hp}{Q:VK}{E:XK}(h:ir K C (ba n m (lZ i nm fs)) σ H Q):DY C nm (lY K C n m) [] E (mJ i) (Bn K C fs) σ H Q:=by
 obtain⟨F,x,fp,rs,x',R,hf,q⟩:=(uH (E:=E) h:Bn K C (lZ i nm fs) σ H λvs H1=>lY K C n m (vs++[]) H1 Q E);unfold lZ at hf;split at hf;case h_2=>cases hf
 case h_1 gs hl=>
 split at hf;case isFalse=>cases hf
 case isTrue hn=>obtain⟨⟨rs1,x2⟩,h1,hf⟩:=Q7 hf;cases hf;obtain⟨_,v,g1,g2⟩:=R.obs _ (bF hl);obtain⟨ad,dx,hs,rfl,_,c1,c2,c3⟩:=g2;refine⟨.ref ad,g1,ad,dx,hs,rfl,c2,c3.none (Option.isNone_iff_eq_none.mp hn),F,x,fp,rs1,_,R,h1,λF2 H2 vs fp2 X2 R2 A2=>?_⟩;exact q F2 H2 (.ref ad::vs) fp2 X2 R2 ⟨.ref ad,vs,rfl,g1,A2⟩
theorem vT{i k n:Nat}{x nm:Str}{f:xM}{fd:RD}{ps:List Str}{m:MX}{pl:Sem Bool}(hK:X.K=K)(ho:PE X (.Name x p) (mJ i))(cl:sP K C)(hm:oK K C nm f)(G:aG X.prog X.w X.K X.mg X.base ck k f fd ps (lY K C n m))(hr:bX k X.A)(hb:ez X.K fd ps [])(ha:PA X (a::es) (Bn K C fs))(hst:RB (a::es) X.env=(false,RC a X.env)::RB es X.env)(hpl:(RP pos (RB es X.env)).any (·.1)=false)(ht:RC (.Call (.Attribute (.Name x p) nm apos) (a::es) [] pos) X.env=(do
 let ov<-RC (.Name x p) X.env
 standAt apos.atName let (f,first)<-holding [ov] (getMethod ov nm pl)callWith pos f first (RP pos (RB (a::es) X.env)) (Tz pos (TB [] X.env)))):PE X (.Call (.Attribute (.Name x p) nm apos) (a::es) [] pos) (ir K C (ba n m (lZ i nm fs))):=by subst hK;exact(FF ho cl hm G hr hb .nil xB ha hst hpl ht).mono λ_ _ _ h=>uJ h
theorem Da{i k n:Nat}{x nm:Str}{f:xM}{fd:RD}{ps:List Str}{m:MX}{pl:Sem Bool}(hK:X.K=K)(ho:PE X (.Name x p) (mJ i))(cl:sP K C)(hm:oK K C nm f)(G:aG X.prog X.w X.K X.mg X.base ck k f fd ps (lY K C n m))(hr:bX k X.A)(hb:ez X.K fd ps [])(ht:RC (.Call (.Attribute (.Name x p) nm apos) [] [] pos) X.env=(do
 let ov<-RC (.Name x p) X.env
 standAt apos.atName let (f,first)<-holding [ov] (getMethod ov nm pl)callWith pos f first (RP pos (RB [] X.env)) (Tz pos (TB [] X.env)))):PE X (.Call (.Attribute (.Name x p) nm apos) [] [] pos) (ir K C (ba n m (lZ i nm cc))):=by subst hK;refine(CV ho cl hm G hr hb .nil xB ht).mono λσ H Q h=>?_;obtain⟨v,g1,ad,dx,hs,e1,e2,e3,F,x,fp,rs,x',R,hf,q⟩:=uJ (E:=E0) h;cases hf;exact⟨v,g1,ad,dx,hs,e1,e2,e3,q F H [] fp bv.refl R rfl⟩
theorem Dc{lo hi:Option Rl}{l h:Option Int}(hK:X.K=K)(he:PE X a (ir K C fa))(hl:PO X lo (fO K λe=>some (l,e)))(hh:PO X hi (fO K λe=>some (h,e))):PE X (.Subscript a (.Slice lo hi none p2) pos) (ir K C (GD fa l h)):=by
 subst hK;refine(rG LD he hl hh).mono λσ H Q hh'=>?_;obtain⟨F,x,fp,r,x',R,hf,q⟩:=hh';unfold GD at hf;obtain⟨⟨d,x1⟩,h1,hf⟩:=Q6 hf;obtain⟨z,h2,hf⟩:=Q6 hf;obtain⟨d2,h3,hf⟩:=Q7 hf;cases hf
 refine⟨F,x,fp,d,_,R,h1,λF1 H1 v fp1 X1 R1 A1=>⟨F1,_,_,_,R1.rel,rfl,λF2 H2 X2 R2=>⟨F2,_,_,_,R2,rfl,λF3 H3 X3 R3=>?_⟩⟩⟩;obtain⟨Y2,R2X⟩:=R1.pure0 X2 R2;obtain⟨Y3,R3X⟩:=R2X.pure0 X3 R3;have A3:cF X.K σ H3 F3 H3 x1.1 (.d d) v:=A1.mono (X2.sf.trans X3.sf);unfold HX at h2;obtain⟨⟨k,ds⟩,g1,g2⟩:=Q7 h2;obtain⟨pp,vs,rfl,B,S⟩:=dF R3 A3 g1;cases k with|true=>
  have g2':Rv.l (cutD ds l h)=z:=by simpa using g2
  subst g2';refine .inr (.inr ⟨pp,vs,rfl,S,λb hb=>?_⟩);obtain⟨R4,X4,hF,no⟩:=R3.newL (vs:=qd vs l h) hb;obtain⟨Y4,R4X⟩:=R3X.pure0 X4 R4;obtain⟨F5,Y5,R5,D5⟩:=aP.toD (H1:=H3) Y4 R4X (λ_ z=>z) R3X.hn (show cF X.K σ H3 F3 _ _ (.l (cutD ds l h)) (.ref b) from⟨b,_,rfl,hb,hF,au,u_ B l h,no⟩) h3;exact q F5 _ _ _ (((X1.trans Y2).trans Y3).trans Y5) R5 D5|false=>
  have g2':Rv.d (.tuple (cutD ds l h))=z:=by simpa using g2
  subst g2';cases h3;by_cases hw:HT.sIx vs.length 0 l=0/\HT.sIx vs.length vs.length h=vs.length
  ·refine .inr (.inl ⟨pp,vs,rfl,S,hw,?_⟩);have e5:cutD ds l h=ds:=by unfold cutD;exact zC (by rw[B.len];exact hw)
   rw[e5]at q;obtain⟨F4,R4,X4,hF⟩:=R3.growT (ao.refl _) S;obtain⟨Y4,R4X⟩:=R3X.pure0 X4 R4;exact q _ _ _ _ (((X1.trans Y2).trans Y3).trans Y4) R4X (cO.mpr ⟨pp,vs,rfl,hF,B.mono X4.sf⟩)
  ·refine .inl ⟨pp,vs,rfl,S,hw,λb hb=>?_⟩;obtain⟨R4,X4⟩:=R3.newT (vs:=qd vs l h) hb;obtain⟨Y4,R4X⟩:=R3X.pure0 X4 R4;exact q _ _ _ _ (((X1.trans Y2).trans Y3).trans Y4) R4X (cO.mpr ⟨b,_,rfl,.inl (.inl au),(u_ B l h).mono X4.sf⟩)
def Ea(y:Str)(fb:XE):XE:=λx=>(fb x).bind λp=>match p.1 with|.int i=>if i.natAbs.log2<1900/\y.length<=1000/\((toString i:String):Str).length<=1000 then some (.str (TV++y++(toString i:String)),p.2) else none|_=>none
theorem Lh{y:Str}{j:Nat}{p0 p1:Pos}(hb:PE X b (ir K C fb)):PE X (.JoinedStr [.Constant (.str y) j p0,.FormattedValue b (-1) none p1] pos) (ir K C (Ea y fb)):=λpins s σ H Q I h=>by
 obtain⟨F,x,fp,r,x',R,hf,q⟩:=h;unfold Ea at hf;obtain⟨⟨d,x1⟩,h1,hf⟩:=Q6 hf;dsimp only at hf;split at hf;case h_2=>cases hf
 case h_1 i=>
 split at hf;case isFalse=>cases hf
 case isTrue hc=>
 cases hf;have e0:(TV).length=0:=rfl;have l1:(TV++y).length=y.length:=by rw[rf,e0];lia
 refine JoinedStr_many (joinParts_cons (cZ (@yQ X y j p0 pins s σ H (λv H1=>v=.str y/\H1=H) I ⟨rfl,rfl⟩) λv s1⟨xv,H1,I1,rv1,ex,eh⟩=>?_));subst ex;subst eh;obtain⟨t1,rfl⟩:=rv1;refine⟨by rw[l1,SK];lia,joinParts_cons (FormattedValue_plain (cZ (hb pins s1 σ H1 _ I1 ⟨F,x,fp,_,x',R,h1,λF2 H2 v fp2 X2 R2 A2=>(⟨cq.mp A2,F2,fp2,X2,R2⟩:v=.int i/\∃F2 fp2,bv [] σ F H1 x.1 (Fo x.2 fp) σ F2 H2 x'.1 (Fo x'.2 fp2)/\aP K C F2 H2 σ x'.1 x'.2 fp2)⟩) λv s2⟨yv,H2,I2,rv2,ey,F2,fp2,X2,R2⟩=>?_))⟩;subst ey;obtain⟨t2,rfl⟩:=rv2;have hl2:=hc.2.2;refine formatField_int_small (by lia) ⟨by rw[rf,l1,SK];lia,joinParts_nil ⟨.str _,H2,(I2.tok _).tok _,⟨_,rfl⟩,q F2 H2 _ fp2 X2 R2 (jQ.mpr rfl)⟩ (by rw[rf,l1,SK];lia)⟩
end
theorem zX{K:Rj}{F H:Hp}(sm:ao F H){rs:List Ar}{vs:List V}(hl:rs.length=vs.length)(hd:∀(k:Nat) (d:Rh),rs[k]?=some (.inr d)->∃v,vs[k]?=some v/\DA K F d v):bf K F H (vs.map some) (lS rs):=by
 refine⟨sm,by unfold lS;simp[hl],λi y hy=>?_,λi ys hy=>?_,λi ys hy=>?_,λi j a hi _=>absurd ⟨i,hi⟩ (cU (de rs))⟩
 ·rcases jR hy with⟨_,_,w⟩|⟨d,hk,w⟩;·cases w
  ·cases w;obtain⟨v,g1,g2⟩:=hd _ _ hk;exact⟨v,by rw[RY,g1];rfl,g2⟩
 ·rcases jR hy with⟨_,_,w⟩|⟨_,_,w⟩<;>cases w
 ·rcases jR hy with⟨_,_,w⟩|⟨_,_,w⟩<;>cases w
section
variable{K:Rj}{C:xM}{F H F' H':Hp}{σ:L2.St}{e:En}{ob:gc}{fp:Lc->List xM}{i:Nat}
def j5(i:Nat)(ob:gc):gc:=ob.filter λp=>!(p.1.slot==i)
end
section
variable{X:Cx}{K:Rj}{C:xM}{fa fb:XE}{fs:XR}{f0:FS}{a b:Rl}{es:List Rl}{aB:List Rx}{pos apos p p2:Pos}{W:List Nat}
end
section
variable{X:Cx}{K:Rj}{C:xM}{f0:FS}{aB:List Rx}{pos p p1 p2 p3:Pos}{W:List Nat}
def mF(c i j:Nat)(W:List Nat)(f:FS):XS:=λx=>match x.2 with
 |[(.s k,.st xs ys)]=>if k=c/\i<x.1.length/\j<x.1.length/\i≠j/\c≠i/\c≠j/\i∉W/\j∉W/\c∉W then(f (((x.1.set i none).set j none).set i (some (.l xs))|>.set j (some (.l ys)))).bind λfl=>match fl with
  |.rt r e=>(iE r).bind λd=>match e[i]?,e[j]?,e[c]? with|some (some (.l xs')),some (some (.l ys')),some none=>some (.rt d ((e.set i none).set j none,[(.s k,.st xs' ys')]))|_,_,_=>none
  |_=>none else none|_=>none
theorem A7{c i j k:Nat}{x y z:Str}(hK:X.K=K)(hc:X.calm=true)(ho:PE X (.Name z p) (mJ c))(hN:X.N.Nodup)(hi:X.N[i]?=some x)(hj:X.N[j]?=some y)(hx:zo X.env.scope x)(hy:zo X.env.scope y)(hfx:X.fn x=true\/X.env.scope.names.lookup x=some .local)(hfy:X.fn y=true\/X.env.scope.names.lookup y=some .local)(hs:UQ [.Tuple [.Name x p1,.Name y p2] k p3] (.Name z p) pos.line X.env=pure false)(hw:UR [.Tuple [.Name x p1,.Name y p2] k p3] (.Name z p) X.env=pure none)(h1:(Sa [.Tuple [.Name x p1,.Name y p2] k p3] X.env).map (·.2)=[Td (.Tuple [.Name x p1,.Name y p2] k p3) X.env])(hn:(Sa [.Name x p1,.Name y p2] X.env).length=2)(hst:(Sa [.Name x p1,.Name y p2] X.env).findIdx? (·.1)=none)(ha:(Sa [.Name x p1,.Name y p2] X.env).map (·.2)=Td (.Name x p1) X.env::(Sa [.Name y p2] X.env).map (·.2))(hb:(Sa [.Name y p2] X.env).map (·.2)=Td (.Name y p2) X.env::(Sa [] X.env).map (·.2))(hr:ke X aB (fS K f0 W)):ke X (.Assign [.Tuple [.Name x p1,.Name y p2] k p3] (.Name z p) pos::aB) (qe K C (mF c i j W f0) (i::j::W)):=by
 refine(nY (C5 ho (vO hK hc (jv (lN hN hi hx hfx) (jv (lN hN hj hy hfy) vP hb) ha) hn hst) hs hw h1) hr).mono λD σ H h=>?_;obtain⟨F,⟨e,ob⟩,fp,fl,R,hf,q⟩:=h;unfold mF at hf;dsimp only at hf;split at hf;case h_2=>cases hf
 case h_1 kk xs ys=>
 split at hf;case isFalse=>cases hf
 case isTrue hcnd=>
 obtain⟨rfl,li,lj,nij,nci,ncj,wi,wj,wc⟩:=hcnd;obtain⟨fl1,g1,hf⟩:=Q6 hf;obtain⟨c1,v,c2,c3⟩:=R.obs _ (RW.mpr rfl);obtain⟨t,l,m,vs,us,rfl,efp,nlm,st,fl0,fm0,hl,hm,dx,dy⟩:=c3;have c2:σ[kk]?=some (some (.ref t)):=c2;have nf:∀a,a∈[l,m]->¬bi σ e H a:=λa ha=>R.own a ⟨_,RW.mpr rfl,by rw[efp];exact ha⟩;have R1:=((R.rel.drop i).poke (some (V.ref l)));have R2:=((R1.drop j).poke (some (V.ref m)));have lenσ:σ.length=e.length:=R.rel.len;refine⟨_,c2,t,[.ref l,.ref m],rfl,R.rel.sm.tup st,rfl,.ref l,[.ref m],rfl,.ref m,[],rfl,rfl,?_⟩;let e0:En:=(e.set i none).set j none;have R2':bf K F H ((σ.set i (some (.ref l))).set j (some (.ref m))) e0:=R2;have ow0:∀a,bi ((σ.set i (some (.ref l))).set j (some (.ref m))) e0 H a->bi σ e H a:=λa⟨q,z⟩=>by have z1:Fp (σ.set i (some (.ref l))) ((e.set i none).set j none) H q a:=eE.mp z;exact bi.drop ⟨q,eE.mp z1.drop⟩
 obtain⟨R3,o3⟩:=R2'.setL i (xs:=xs) (l:=l) fl0 hl dx (λz=>nf l (by simp) (ow0 l z));have eσ:((σ.set i (some (V.ref l))).set j (some (V.ref m))).set i (some (V.ref l))=(σ.set i (some (V.ref l))).set j (some (V.ref m)):=by
  refine Uj λq=>?_;by_cases z:i=q;·subst z;rw[Sj (by simp;lia),RI (RJ nij),Sj (by lia)]
  ·rw[RI z]
 rw[eσ]at R3 o3;obtain⟨R4,o4⟩:=R3.setL j (xs:=ys) (l:=m) fm0 hm dy (λz=>by
  rcases o3 m z with w|w;·exact nf m (by simp) (ow0 m w)
  ·exact nlm w.symm);have eσ2:((σ.set i (some (V.ref l))).set j (some (V.ref m))).set j (some (V.ref m))=(σ.set i (some (V.ref l))).set j (some (V.ref m)):=by rw[List.set_set]
 rw[eσ2]at R4 o4;have ow4:∀a,bi ((σ.set i (some (.ref l))).set j (some (.ref m))) ((e0.set i (some (.l xs))).set j (some (.l ys))) H a->bi σ e H a\/Fo [((Lc.s kk:Lc),Ob.st xs ys)] fp a:=λa z=>by
  have fo:∀b∈[l,m],Fo [((Lc.s kk:Lc),Ob.st xs ys)] fp b:=λb hb=>⟨_,RW.mpr rfl,by rw[efp];exact hb⟩;rcases o4 a z with w|w
  ·rcases o3 a w with w|w;·exact .inl (ow0 a w)
   ·rw[w];exact .inr (fo l (by simp))
  ·rw[w];exact .inr (fo m (by simp))
 refine⟨F,_,fl1,R4,g1,?_⟩;cases fl1 with|rt r e'=>
  obtain⟨d,h2,hf⟩:=Q6 hf;split at hf;case h_2=>cases hf
  case h_1 xs' ys' ei ej ec=>
  cases hf;intro F' H' σ' v X' R' A';have si:σ'[i]?=some (some (.ref l)):=by rw[X'.wr i wi,RI (RJ nij),Sj (by lia)]
  have sj:σ'[j]?=some (some (.ref m)):=by rw[X'.wr j wj,Sj (by simp;lia)]
  have sc:σ'[kk]?=some (some (.ref t)):=by rw[X'.wr kk wc,RI (RJ ncj),RI (RJ nci)];exact c2
  obtain⟨l',vs',a1,a2,a3,a4⟩:=R'.own i xs' ei;rw[si]at a1;cases a1;obtain⟨m',us',b1,b2,b3,b4⟩:=R'.own j ys' ej;rw[sj]at b1;cases b1;obtain⟨F2,R2,s2,D2,f2⟩:∃F2,bf K F2 H' σ' e'/\ao F' F2/\DA K F2 d v/\∀a,F' a=none->H a≠none->F2 a=none:=by cases r with|d x=>cases h2;exact⟨F',R',ao.refl _,A',λ_ h _=>h⟩|s q=>cases h2|l zs=>cases h2;exact A'.frozen R'
  have fpi:Fp σ' e' H' i l:=.inl ⟨xs',ei,si⟩;have fpj:Fp σ' e' H' j m:=.inl ⟨ys',ej,sj⟩;have non:∀{q:Nat}{a:xM},Fp σ' ((e'.set i none).set j none) H' q a->q≠i/\q≠j:=fun{q a}z=>by
   have key:∀s:Sv,((e'.set i none).set j none)[q]?=some (some s)->q≠i/\q≠j:=λs w=>by
    refine⟨λz=>?_,λz=>?_⟩;·subst z;have:=nD w;rw[UE,if_pos rfl]at this;split at this<;>cases this
    ·subst z;rw[UE,if_pos rfl]at w;split at w<;>cases w
   rcases z with⟨zs,w,_⟩|⟨zs,_,_,w,_⟩;·exact key _ w
   ·exact key _ w
  have hdrop:∀a,bi σ' ((e'.set i none).set j none) H' a->bi σ' e' H' a:=λa z=>bi.drop (bi.drop z);have hln:H l≠none:=by rw[hl];simp
  have hmn:H m≠none:=by rw[hm];simp
  refine q F2 H' σ' v fp ⟨X'.sf.trans s2,X'.dom,λa ws h1 h2 n1 n2=>f2 a (X'.fr a ws h1 h2 λz=>(ow4 a z).elim n1 n2) (by rw[h2];simp),X'.lst,λa o h n1 n2=>X'.tmp a o h λz=>(ow4 a z).elim n1 n2,λa z=>?_,λq hq=>?_,λa o h1 h2 n1 n2=>f2 a (X'.fd a o h1 h2 λz=>(ow4 a z).elim n1 n2) (by rw[h2];simp)⟩ ⟨(R2.drop i).drop j,λp hp=>?_,λp hp p' hp' hne=>?_,λa ha z=>?_⟩ D2
  ·rcases z with z|z
   ·rcases X'.own a (hdrop a z) with w|w;·exact .inl (ow4 a w)
    ·exact .inr w
   ·obtain⟨p,hp,ha⟩:=z;rw[RW]at hp;subst hp;exact .inl (.inr ⟨_,RW.mpr rfl,ha⟩)
  ·have h1:q≠i:=λz=>hq (by simp[z]);have h2:q≠j:=λz=>hq (by simp[z]);have h3:q∉W:=λz=>hq (by simp[z]);rw[X'.wr q h3,RI (RJ h2),RI (RJ h1)]
  ·rw[RW]at hp;subst hp;refine⟨?_,.ref t,sc,t,l,m,vs',us',rfl,efp,nlm,(X'.sf.trans s2).tup st,f2 l a2 hln,f2 m b2 hmn,a3,b3,a4.mono s2,b4.mono s2⟩;show((e'.set i none).set j none)[kk]?=_;rw[RI (RJ ncj),RI (RJ nci)];exact ec
  ·rw[RW]at hp hp';subst hp;subst hp';exact absurd rfl hne
  ·obtain⟨p,hp,ha⟩:=ha;rw[RW]at hp;subst hp;have ha:a∈fp (Lc.s kk):=ha;rw[efp]at ha;obtain⟨q,zq⟩:=z;obtain⟨n1,n2⟩:=non zq;rcases Re ha with w|w;·subst w;exact n1 (R'.fp q i _ zq.drop.drop fpi)
   ·rw[RW]at w;subst w;exact n2 (R'.fp q j _ zq.drop.drop fpj)|nx e'=>cases hf|bk e'=>cases hf|ct e'=>cases hf
end
structure J' (K:Rj) (w:Ro) (a:xM) (ms:List (Str×xM)):Prop where
 at_:∃es n,K.lookup a=some ⟨.type "dict",none,.dict es n,#[]⟩/\Paired (fun(e:Ur) (p:Str×xM)=>e.hash=hashStr w p.1/\(∃t,e.key=.str p.1 t)/\e.val=.ref p.2) es.toList ms
 nod:(ms.map (·.1)).Nodup
 sys:(a==sysModules)=false
theorem pC(x:Str):∀(ms:List (Str×xM)),valueAt (ms.map λp=>((Sum.inr p.1:ko),Value.ref p.2)) (Sum.inr x)=(ms.lookup x).map Value.ref|[]=>rfl|(y,a)::r=>by rw[Sm,Sb];unfold valueAt;rw[List.find?_cons];cases c:x==y with|true=>rw[show decide ((Sum.inr y:ko)=Sum.inr x)=true from decide_eq_true (by rw[eq_of_beq c])];rfl|false=>rw[show decide ((Sum.inr y:ko)=Sum.inr x)=false from decide_eq_false (λz=>by rw[Sum.inr.inj z]at c;simp at c)];exact pC x r
theorem J'.dict{P:Rw}{w:Ro}{K:Rj}{a:xM}{ms:List (Str×xM)}(T:J' K w a ms){h:Ru}(X:K.In h):h.DictOf (f_ P w) a (ms.map λp=>((Sum.inr p.1:ko),Value.ref p.2)):=by
 obtain⟨es,n,h1,h2⟩:=T.at_;refine⟨_,es,n,X a _ h1,⟨rfl,rfl,rfl⟩,rfl,λe he=>?_,?_,?_⟩
 ·have:∀{l:List Ur}{ms:List (Str×xM)},Paired (fun(e:Ur) (p:Str×xM)=>e.hash=hashStr w p.1/\(∃t,e.key=.str p.1 t)/\e.val=.ref p.2) l ms->∀e∈l,∃k:ko,(f_ P w).is k e.key=true/\e.hash=(f_ P w).hash k:=by intro l ms h;induction h with|nil=>intro e he;cases he|@cons e p l ms h _ ih=>
    intro e' he;rcases Re he with rfl|he;·obtain⟨g1,⟨t,g2⟩,_⟩:=h;exact⟨Sum.inr p.1,by rw[g2];exact lI p.1 t,g1⟩
    ·exact ih e' he
  exact this h2 e (by simpa using he)
 ·have:∀{l:List Ur}{ms:List (Str×xM)},Paired (fun(e:Ur) (p:Str×xM)=>e.hash=hashStr w p.1/\(∃t,e.key=.str p.1 t)/\e.val=.ref p.2) l ms->Pairs (f_ P w) l (ms.map λp=>((Sum.inr p.1:ko),Value.ref p.2)):=by intro l ms h;induction h with|nil=>exact .nil|@cons e p l ms h _ ih=>obtain⟨_,⟨t,g2⟩,g3⟩:=h;refine .cons (kv:=(_,_)) ?_ g3 ih;show xb (Sum.inr p.1) e.key=true;rw[g2];exact lI _ t
  exact this h2
 ·have:(ms.map λp=>((Sum.inr p.1:ko),Value.ref p.2)).map (·.1)=(ms.map (·.1)).map Sum.inr:=by simp[TJ,Function.comp]
  rw[this];exact List.pairwise_map.mpr (T.nod.imp λh z=>h (Sum.inr.inj z))
section
variable{X:Cx}{K:Rj}{C:xM}{a b:Rl}{fa:FE}{aB:List Rx}{pos p p1 p2 p3:Pos}{W:List Nat}
def Ba(ks:List Str)(fa:FE):FT:=λe=>(fa e).bind λp=>(bN p.1).map λy=>(ks.any λk=>y==k,p.2)
theorem xi(y:Str):∀(ms:List (Str×xM)),(ms.lookup y).isSome=(ms.map (·.1)).any λk=>y==k|[]=>rfl|(k,a)::r=>by rw[Sm,Sb,VF];cases c:y==k with|true=>rfl|false=>simpa[c]using xi y r
theorem JF{x:Str}{q:xM}{ms:List (Str×xM)}{ks:List Str}(hK:X.K=K)(T:J' K X.w q ms)(hks:ms.map (·.1)=ks)(ha:PE X a (fE K fa))(hg:Gl X x)(hm:X.mg x=some (.ref q))(hd:(x==("__debug__":Str))=false)(hb:To .In (.Name x p)=false):PT X (.Compare a [.In] [.Name x p] pos) (fT K (Ba ks fa)):=by
 subst hK;subst hks;have pc:PC X .In a (.Name x p) (λσ H Q=>fE X.K fa σ H λv H1=>∃y:Str,v=.str y/\Q (.bl (ms.lookup y).isSome) H1):=by intro pins s σ H Q I h;refine cZ (ha pins s σ H _ I h) λiv s1⟨v,H1,I1,r1,y,ey,q1⟩=>nJ I1 hg hm ?_ hd;subst ey;obtain⟨t,rfl⟩:=r1;refine wpAny_in_of (knd:=f_ X.prog X.w) (k:=Sum.inr y) (show(f_ X.prog X.w).is (Sum.inr y) (.str y t)=true from lI y t) T.sys (T.dict I1.kIn).mapOf ?_;rw[pC,Option.isSome_map];exact⟨.bl _,H1,I1.tok _,rfl,q1⟩
 refine(Jv pc hb).mono λσ H Q h=>?_;obtain⟨F,e,bb,e',R,hf,q⟩:=h;unfold Ba at hf;obtain⟨⟨r,e1⟩,h1,hf⟩:=Q6 hf;obtain⟨y,h2,hf⟩:=Q7 hf;cases hf;exact⟨F,e,r,_,R,h1,λF1 H1 v X1 R1 A1=>⟨y,dW A1 h2,_,rfl,by rw[xi];exact q F1 H1 X1 R1⟩⟩
def Mw(X:Cx)(k:Nat)(f:xM)(m:FM):Prop:=∃fd ps,aG X.prog X.w X.K X.mg X.base ck k f fd ps (eu X.K 2 m)/\ez X.K fd ps []/\Ul X.K (.ref f)=true
def xH(i il iq:Nat)(qs:List (Str×FM)):XS:=λx=>match x.1[il]? with|some (some (.d (.str y)))=>(qs.lookup y).bind λm=>if iY [iq] x.2=true/\iq<x.1.length then bD (pA 2 m (bS (bT i "web") (bS (bT i "run") gX))) (x.1.set iq none,x.2) else none|_=>none
theorem Do{i il iq k:Nat}{x y z:Str}{qa:xM}{ms:List (Str×xM)}{qs:List (Str×FM)}{e1 e2:Rl}{pos' rp cp:Pos}(hK:X.K=K)(T:J' K X.w qa ms)(hr:bX k X.A)(hq:∀(u:Str) (m:FM),qs.lookup u=some m->∃f,ms.lookup u=some f/\Mw X k f m)(hg:Gl X x)(hm:X.mg x=some (.ref qa))(hd:(x==("__debug__":Str))=false)(hl:PE X (.Name y p1) (mJ il))(hN:X.N.Nodup)(hi:X.N[iq]?=some z)(hz:zo X.env.scope z)(hsw:Tx (.Subscript (.Name x p) (.Name y p1) p2) (some (.Name z pos')) pos.line X.env=pure false)(hf:X.fn z=true\/X.env.scope.names.lookup z=some .local)(hv:PE X (.Name z p3) (mJ iq))(ha:PA X [e1,e2] (EC K C (bS (bT i "web") (bS (bT i "run") gX))))(hst:RB [e1,e2] X.env=(false,RC e1 X.env)::RB [e2] X.env)(hpl:(RP cp (RB [e2] X.env)).any (·.1)=false):ke X [.Assign [.Name z pos'] (.Subscript (.Name x p) (.Name y p1) p2) pos,.Return (some (.Call (.Name z p3) [e1,e2] [] cp)) rp] (qe K C (xH i il iq qs) [iq]):=by
 subst hK;have look:PE X (.Subscript (.Name x p) (.Name y p1) p2) (λσ H Q=>∃(u:Str) (f:xM),σ[il]?=some (some (.str u))/\ms.lookup u=some f/\Q (.ref f) H):=by intro pins s σ H Q I h;obtain⟨u,f,h1,h2,q⟩:=h;refine Gm PySem.F.slot_dict_getitem.lookup (λ_ _=>rfl) (nJ I hg hm (cZ (hl pins s σ H (λv H1=>v=.str u/\H1=H) I ⟨.str u,h1,rfl,rfl⟩) λiv s1⟨v,H1,I1,r1,ev,eh⟩=>?_) hd);subst ev;subst eh;obtain⟨t,rfl⟩:=r1;have dd:=T.dict (P:=X.prog) I1.kIn;refine⟨dd.typeIs,wpAny_getItem_of (knd:=f_ X.prog X.w) (k:=Sum.inr u) (show(f_ X.prog X.w).is (Sum.inr u) (.str u t)=true from lI u t) dd.mapOf (v:=.ref f) (by rw[pC,h2];rfl) ⟨.ref f,H1,I1.tok _,rfl,q⟩⟩
 have call:PE X (.Call (.Name z p3) [e1,e2] [] cp) (λσ H Q=>∃f m,σ[iq]?=some (some (.ref f))/\Mw X k f m/\sx (eu X.K 2 m) [] E0 (EC X.K C (bS (bT i "web") (bS (bT i "run") gX))) σ H Q):=by intro pins s σ H Q I h;obtain⟨f,m,h1,⟨fd,ps,G,hb,hk⟩,q⟩:=h;refine US (cZ (hv pins s σ H (λv H1=>v=.ref f/\H1=H) I ⟨.ref f,h1,rfl,rfl⟩) λfv s1⟨v,H1,I1,r1,ev,eh⟩=>?_);subst ev;subst eh;obtain rfl:fv=Value.ref f:=r1;refine Vp (h₀:=X.base) I1.ok.mod.kin hk (cZ (ha cp pins s1 σ H1 _ I1 q) λus s2⟨vs,H2,I2,r,q2⟩=>⟨I2.kIn,?_⟩) hst hpl;exact vY G hr hb .nil xB I2 r q2
 refine(nY (vQ hN hi hz look hsw hf) (vS (yU call))).mono λD σ H h=>?_;obtain⟨F,⟨e,ob⟩,fp,fl,R,hf,q⟩:=h;unfold xH at hf;split at hf;case h_2=>cases hf
 case h_1 u hu=>
 obtain⟨m,h1,hf⟩:=Q6 hf;split at hf;case isFalse=>cases hf
 case isTrue hc=>obtain⟨hw,hlt⟩:=hc;obtain⟨⟨d,x1⟩,h3,hf⟩:=Q7 hf;cases hf;obtain⟨f,g1,g2⟩:=hq u m h1;obtain⟨v,c1,c2⟩:=R.rel.dat _ _ hu;rw[jQ.mp c2]at c1;refine⟨u,f,c1,g1,?_⟩;have hw':=rD hw;have ne:∀p∈ob,iq≠p.1.slot:=λp hp z=>hw' p hp (by rw[z];simp);have R2:aP X.K C F H (σ.set iq (some (.ref f))) (e.set iq none) ob fp:=⟨(R.rel.drop iq).poke _,λp hp=>by obtain⟨d1,w,d2,d3⟩:=R.obs p hp;exact⟨by rw[RI (ne p hp)];exact d1,w,d2.mono (ao.refl _) (RI (ne p hp)),d3⟩,R.dis,λa ha z=>by obtain⟨j,zj⟩:=z;exact R.own a ha (bi.drop ⟨j,eE.mp zj⟩)⟩;have Y:bv [iq] σ F H e (Fo ob fp) (σ.set iq (some (.ref f))) F H (e.set iq none) (Fo ob fp):=⟨ao.refl _,λ_ z=>z,λ_ _ z _ _ _=>z,λ_ vs z=>⟨vs,z⟩,λ_ _ z _ _=>z,λa z=>.inl (z.imp_left λ⟨j,zj⟩=>bi.drop ⟨j,eE.mp zj⟩),λj n=>RI (λz=>n (by simp[z])),λ_ _ z _ _ _=>z⟩;refine⟨f,m,Sj (by rw[R.rel.len];exact hlt),g2,An ⟨F,(e.set iq none,ob),fp,d,x1,R2,h3,λF1 H1 w fp1 X1 R1 A1=>?_⟩⟩;exact q F1 H1 _ w fp1 (Y.trans (X1.mono λj h=>by cases h)) R1 A1
end
def Cq(m:MX):FM:=λas=>if vc (as.map some)=true then(m (as.map some,[])).map λz=>(.d z.1,as) else none
section
variable{P:Rw}{w:Ro}{K:Rj}{C:xM}{mg:Str->Option Oq}{base:Ru}
theorem IP{k n:Nat}{f:xM}{fd:RD}{ps:List Str}{m:MX}(G:aG P w K mg base ck k f fd ps (lY K C n m)):aG P w K mg base ck k f fd ps (eu K n (Cq m)):=G.imp λvs H Q E h=>by
 obtain⟨hl,F,as,r,as',R,nN,hm,hn,q⟩:=h;unfold Cq at hm;split at hm;case isFalse=>cases hm
 case isTrue hd=>
 obtain⟨⟨d,oc⟩,h1,hm⟩:=Q7 hm;cases hm;refine⟨hl,F,(as.map some,[]),λ_=>[],d,oc,⟨R,(λp hp=>by cases hp),(λp hp=>by cases hp),(λa⟨p,hp,_⟩=>by cases hp)⟩,hd,h1,λF' H' v fp' X R' A=>?_⟩;have nS:∀a,¬Fo ([]:gc) (λ_=>[]) a:=λa⟨p,hp,_⟩=>by cases hp
 exact q F' H' v ⟨X.sf,X.dom,λa vs h1 h2 h3=>X.fr a vs h1 h2 h3 (nS a),X.lst,λa o h1 h2=>X.tmp a o h1 h2 (nS a),λ_=>Iff.rfl,λa z=>absurd z (cU hd),λa o h1 h2 h3=>X.fd a o h1 h2 h3 (nS a)⟩ R'.rel A
end
section
variable{K:Rj}{C:xM}{W:List Nat}{F H F' H':Hp}{σ σ':L2.St}{e e':En}{ob:gc}{fp:Lc->List xM}{i:Nat}{S S' T:xM->Prop}
theorem bv.addS(X:bv W σ F H e S σ' F' H' e' S')(hT:∀a,T a->¬bi σ e H a/\¬S a/\H a≠none):bv W σ F H e (λa=>S a\/T a) σ' F' H' e' λa=>S' a\/T a:=⟨X.sf,X.dom,λa vs h1 h2 h3 h4=>X.fr a vs h1 h2 h3 λz=>h4 (.inl z),X.lst,λa o h1 h2 h3=>X.tmp a o h1 h2 λz=>h3 (.inl z),λa z=>by
 rcases z with z|z|z;·exact(X.own a (.inl z)).imp_left λw=>w.imp_right .inl
 ·exact(X.own a (.inr z)).imp_left λw=>w.imp_right .inl
 ·exact .inl (.inr (.inr z)),X.wr,λa m h1 h2 h3 h4=>X.fd a m h1 h2 h3 λz=>h4 (.inl z)⟩
theorem fm.keep{o:Ob}{v:V}{fs:List xM}(h:fm K C F H o v fs)(X:bv W σ F H e S σ' F' H' e' S')(hn:∀a∈fs,¬bi σ e H a/\¬S a):fm K C F' H' o v fs:=h.mono X.sf (λa ha=>by obtain⟨g1,u,g2,g3⟩:=h.at a ha;cases u with|ins c d fs=>exact X.fd a ⟨_,rfl⟩ g1 g2 (hn a ha).1 (hn a ha).2|lst vs=>exact X.fr a vs g1 g2 (hn a ha).1 (hn a ha).2|_=>cases g3) λa ha=>by obtain⟨g1,u,g2,g3⟩:=h.at a ha;rw[g2];exact X.tmp a u g2 (hn a ha).1 (hn a ha).2
theorem aP.later(R:aP K C F H σ e ob fp)(sF:ao F F')(sm:ao F' H')(dom:∀a,H' a=none->H a=none)(tmp:∀a u,H a=some u->H' a=some u)(fr:∀a,F a=none->(∃u,H a=some u/\(kept u=true\/B9 u=true))->F' a=none)(hT:∀a,T a->H a=none):bv [] σ F H e (Fo ob fp) σ F' H' e (λa=>Fo ob fp a\/T a)/\aP K C F' H' σ e ob fp/\∀a,T a->¬Fo ob fp a/\¬bi σ e H' a:=by
 obtain⟨R2,o2⟩:=R.rel.keep sF sm (λa h=>by obtain⟨j,hj⟩:=h;obtain⟨h1,vs,h2⟩:=R.rel.fpAt hj;exact fr a h1 ⟨_,h2,.inl rfl⟩) (λa o h q=>tmp a o q);refine⟨⟨sF,dom,λa vs h1 h2 _ _=>fr a h1 ⟨_,h2,.inl rfl⟩,λa vs h=>⟨vs,tmp a _ h⟩,λa u h _ _=>tmp a u h,λa z=>?_,λj n=>rfl,λa m h1 h2 _ _=>fr a h1 ⟨_,h2,.inr m.2⟩⟩,⟨R2,λp hp=>?_,R.dis,λa ha z=>R.own a ha ((o2 a).mp z)⟩,λa ha=>⟨λz=>R.hn a z (hT a ha),λz=>R.rel.ownH a ((o2 a).mp z) (hT a ha)⟩⟩
 ·rcases z with z|z|z;·exact .inl (.inl ((o2 a).mp z))
  ·exact .inl (.inr z)
  ·exact .inr (hT a z)
 ·obtain⟨c1,u,c2,c3⟩:=R.obs p hp;refine⟨c1,u,c2.mono sF rfl,c3.mono sF (λa ha=>?_) λa ha=>?_⟩;·obtain⟨g1,w,g2,g3⟩:=R.at ⟨p,hp,ha⟩;exact fr a g1 ⟨w,g2,.inl g3⟩
  ·obtain⟨g1,w,g2,g3⟩:=R.at ⟨p,hp,ha⟩;rw[g2];exact tmp a w g2
end
abbrev XN:=EX->Option (Ob×EX)
abbrev GN:=EX->Option (List Ob×EX)
abbrev Nw:=Ob×V×List xM
def qc(ts:List Nw)(a:xM):Prop:=∃t∈ts,a∈t.2.2
def Ke(K:Rj)(C:xM)(f:XN):TE:=λσ H Q=>∃F x fp o x',aP K C F H σ x.1 x.2 fp/\f x=some (o,x')/\∀F' H' v fs fp',bv [] σ F H x.1 (Fo x.2 fp) σ F' H' x'.1 (λa=>Fo x'.2 fp' a\/a∈fs)->aP K C F' H' σ x'.1 x'.2 fp'->fm K C F' H' o v fs->(∀a,a∈fs->¬Fo x'.2 fp' a/\¬bi σ x'.1 H' a)->Q v H'
structure HB (K:Rj) (C:xM) (F H:Hp) (σ:L2.St) (e:En) (S:xM->Prop) (ts:List Nw):Prop where
 at_:∀t∈ts,fm K C F H t.1 t.2.1 t.2.2
 no:∀a,qc ts a->¬S a/\¬bi σ e H a
 dis:ts.Pairwise λt s=>∀a∈t.2.2,a∉s.2.2
def Mb(K:Rj)(C:xM)(f:GN):TA:=λσ H Q=>∃F x fp os x',aP K C F H σ x.1 x.2 fp/\f x=some (os,x')/\∀F' H' ts fp',ts.map (·.1)=os->bv [] σ F H x.1 (Fo x.2 fp) σ F' H' x'.1 (λa=>Fo x'.2 fp' a\/qc ts a)->aP K C F' H' σ x'.1 x'.2 fp'->HB K C F' H' σ x'.1 (Fo x'.2 fp') ts->Q (ts.map (·.2.1)) H'
section
variable{X:Cx}{K:Rj}{C:xM}{fa fb:XE}{fn:XN}{fs:GN}{a b:Rl}{es:List Rl}{pos p p2:Pos}{i:Nat}
def IU:GN:=λx=>some ([],x)
def uh(fn:XN)(fs:GN):GN:=λx=>(fn x).bind λp=>(fs p.2).map λq=>(p.1::q.1,q.2)
theorem F7:PA X [] (Mb K C IU):=fL.mono λσ H Q h=>by obtain⟨F,x,fp,os,x',R,hf,q⟩:=h;cases hf;exact q F H [] fp rfl ⟨ao.refl _,λ_ h=>h,λ_ _ h _ _ _=>h,λ_ vs h=>⟨vs,h⟩,λ_ _ h _ _=>h,λa z=>.inl (z.imp_right λw=>w.elim id λ⟨_,h,_⟩=>by cases h),λ_ _=>rfl,λ_ _ h _ _ _=>h⟩ R ⟨λt h=>(by cases h),λa⟨t,h,_⟩=>(by cases h),.nil⟩
theorem Hd(ha:PE X a (Ke K C fn))(hr:PA X es (Mb K C fs))(h:TF a=false):PA X (a::es) (Mb K C (uh fn fs)):=(nV ha hr h).mono λσ H Q h=>by
 obtain⟨F,x,fp,os,x',R,hf,q⟩:=h;unfold uh at hf;obtain⟨⟨o,x1⟩,h1,hf⟩:=Q6 hf;obtain⟨⟨os1,x2⟩,h2,hf⟩:=Q7 hf;cases hf;refine⟨F,x,fp,o,x1,R,h1,λF1 H1 v ws fp1 X1 R1 A1 N1=>⟨F1,x1,fp1,os1,x2,R1,h2,λF2 H2 ts fp2 e2 X2 R2 N2=>?_⟩⟩;have X2':=X2.addS (T:=λa=>a∈ws) λa ha=>⟨(N1 a ha).2,(N1 a ha).1,λz=>by obtain⟨_,u,g,_⟩:=A1.at a ha;rw[g]at z;cases z⟩;have A2:=A1.keep X2 λa ha=>⟨(N1 a ha).2,(N1 a ha).1⟩;have old:∀a,a∈ws->¬(bi σ x2.1 H2 a\/(Fo x2.2 fp2 a\/qc ts a)):=λa ha z=>by
  rcases X2.own a z with w|w;·exact w.elim (N1 a ha).2 (N1 a ha).1
  ·obtain⟨_,u,g,_⟩:=A1.at a ha;rw[g]at w;cases w
 have cn:∀a,qc ((o,v,ws)::ts) a↔a∈ws\/qc ts a:=λa=>by unfold qc;simp
 refine q F2 H2 ((o,v,ws)::ts) fp2 (by rw[Sb,e2]) ?_ R2 ⟨λt ht=>?_,λa ha=>?_,?_⟩;·have Y:=X1.trans X2';exact⟨Y.sf,Y.dom,Y.fr,Y.lst,Y.tmp,λa z=>Y.own a (z.imp_right λw=>by
  rcases w with w|w;·exact .inl (.inl w)
  ·exact((cn a).mp w).elim (λw=>.inr w) λw=>.inl (.inr w)),Y.wr,Y.fd⟩
 ·rcases Re ht with rfl|ht;·exact A2
  ·exact N2.at_ t ht
 ·rcases(cn a).mp ha with w|w;·exact⟨λz=>old a w (.inr (.inl z)),λz=>old a w (.inl z)⟩
  ·exact N2.no a w
 ·exact UY.mpr ⟨λt ht a ha hb=>old a ha (.inr (.inr ⟨t,ht,hb⟩)),N2.dis⟩
end
section
variable{X:Cx}{K:Rj}{C:xM}{fa fb:XE}{fn:XN}{fs:GN}{a b:Rl}{es:List Rl}{pos p p2:Pos}{i:Nat}
def Kg(m:MX)(fa:XE):XN:=λx=>(fa x).bind λp=>(m ([none,some (.d p.1)],[(.s 0,.dk [])])).bind λz=>match z with|(.none,[(.s 0,.dk fs)])=>some (.dk fs,p.2)|_=>none
theorem FZ{k:Nat}{y:Str}{f:xM}{fd:RD}{ps:List Str}{m:MX}{cpos:Pos}(hK:X.K=K)(M:Mk K C f)(G:aG X.prog X.w X.K X.mg X.base ck k f fd ps (lY K C 2 m))(hr:bX (k+1) X.A)(hg:Gl X y)(hm:X.mg y=some (.ref C))(hb:ez X.K fd ps [])(ha:PE X a (ir K C fa))(hst:TF a=false)(hdb:(y==("__debug__":Str))=false)(he:RB [a] X.env=(false,RC a X.env)::RB [] X.env)(hpl:(RP cpos (RB [] X.env)).any (·.1)=false):PE X (.Call (.Name y p) [a] [] cpos) (Ke K C (Kg m fa)):=by
 subst hK;refine(FD M G hr hg hm hb .nil xB (nV ha fL hst) hdb he hpl).mono λσ H Q h=>?_;obtain⟨F,x,fp,ob,x',R,hf,q⟩:=h;unfold Kg at hf;obtain⟨⟨d,x1⟩,h1,hf⟩:=Q6 hf;obtain⟨⟨r,oc⟩,h2,hf⟩:=Q6 hf;dsimp only at hf h2;split at hf;case h_2=>cases hf
 case h_1 fs heq=>
 cases heq;cases hf;refine⟨F,x,fp,d,_,R,h1,λF1 H1 v fp1 X1 R1 A1=>λo dx ho hdx hne=>?_⟩;show lY X.K C 2 m (.ref o::([v]++[])) _ _ _;let H2:Hp:=bg (bg H1 dx (.own o)) o (.ins C dx []);have up:∀a u,H1 a=some u->H2 a=some u:=λa u z=>by
  have n1:a≠o:=λw=>by rw[w,ho]at z;cases z
  have n2:a≠dx:=λw=>by rw[w,hdx]at z;cases z
  show bg (bg H1 dx _) o _ a=_;rw[av n1,av n2];exact z
 have dn:∀a,H2 a=none->H1 a=none:=λa z=>by cases w:H1 a with|none=>rfl|some u=>rw[up a u w]at z;cases z
 have sm2:ao F1 H2:=λa u z=>up a u (R1.rel.sm a u z);have fo:F1 o=none:=R1.rel.freeF ho;have Rc:aP X.K C F1 H2 ([V.ref o,v].map some) (lS [.inl (.s 0),.inr d]) [(.s 0,.dk [])] λ_=>[o]:=by
  refine⟨zX sm2 rfl λk d' hk=>?_,λp hp=>?_,λp hp q hq hne=>?_,λa _=>cU (de _)⟩;·match k,hk with|1,hk=>cases hk;exact⟨v,rfl,A1⟩
  ·rw[RW]at hp;subst hp;exact⟨rfl,.ref o,rfl,o,dx,[],rfl,rfl,fo,au,rfl⟩
  ·rw[RW]at hp hq;subst hp;subst hq;exact absurd rfl hne
 refine⟨rfl,F1,(lS [.inl (.s 0),.inr d],[(.s 0,.dk [])]),_,_,_,Rc,de _,h2,λF' H' w fq X3 R3 A3=>⟨fZ.mp A3,?_⟩⟩;have nO:∀a,¬bi ([V.ref o,v].map some) (lS [.inl (.s 0),.inr d]) H2 a:=λa=>cU (de _);have nS:∀a u,H1 a=some u->¬Fo [((Lc.s 0:Lc),Ob.dk [])] (λ_=>[o]) a:=λa u z=>by rintro⟨p,_,hp⟩;rw[RW]at hp;rw[hp,ho]at z;cases z
 obtain⟨_,u,g1,g2⟩:=R3.obs _ (RW.mpr rfl);have g1:some (some (V.ref o))=some (some u):=g1;cases g1;obtain⟨o',dx',gs,e1,e2,e3,e4,e5⟩:=g2;cases e1;obtain⟨Y,R4,N4⟩:=R1.later (T:=λa=>a∈[o]) (F':=F') (H':=H') X3.sf R3.rel.sm (λa z=>dn a (X3.dom a z)) (λa u z=>X3.tmp a u (up a u z) (nO a) (nS a u z)) (λa g1⟨u,g2,g3⟩=>by
  by_cases k:B9 u=true;·exact X3.fd a ⟨u,k⟩ g1 (up a u g2) (nO a) (nS a u g2)
  ·rcases g3 with g3|g3;·cases u with|lst us=>exact X3.fr a us g1 (up a _ g2) (nO a) (nS a _ g2)|ins c d fs=>exact absurd rfl k|_=>cases g3
   ·exact absurd g3 k) λa ha=>by rw[RW]at ha;rw[ha];exact ho
 exact q F' H' _ [o] _ (X1.trans Y) R4 ⟨o,dx',gs,rfl,rfl,e3,e4,e5⟩ N4
def IW:XN:=λx=>some (.st [] [],x)
theorem rM{j:Nat}{q1 q2 q3:Pos}:PE X (.Tuple [.List [] q1,.List [] q2] j q3) (Ke K C IW):=(CZ (nV (vN fL) (nV (vN fL) fL rfl) rfl)).mono λσ H Q h=>by
 obtain⟨F,x,fp,o,x',R,hf,q⟩:=h;cases hf;refine⟨Tq _,λl hl=>⟨Tq _,λm hm=>⟨by show 2<=RH;decide,λt ht=>?_⟩⟩⟩;have nm:m≠l:=λw=>by rw[w,au]at hm;cases hm
 have nt:t≠m:=λw=>by rw[w,au]at ht;cases ht
 rw[av nm]at hm;rw[av nt]at ht;have ntl:t≠l:=λw=>by rw[w,au]at ht;cases ht
 rw[av ntl]at ht;let H2:Hp:=bg (bg (bg H l (.lst [])) m (.lst [])) t (.tup [.ref l,.ref m]);have up:∀a u,H a=some u->H2 a=some u:=λa u z=>by
  have n1:a≠t:=λw=>by rw[w,ht]at z;cases z
  have n2:a≠m:=λw=>by rw[w,hm]at z;cases z
  have n3:a≠l:=λw=>by rw[w,hl]at z;cases z
  show bg (bg (bg H l _) m _) t _ a=_;rw[av n1,av n2,av n3];exact z
 have dn:∀a,H2 a=none->H a=none:=λa z=>by cases w:H a with|none=>rfl|some u=>rw[up a u w]at z;cases z
 have fr:∀{a},H a=none->F a=none:=λh=>R.rel.freeF h;have sF:ao F (bg F t (.tup [.ref l,.ref m])):=ao.new (fr ht);have hl2:H2 l=some (.lst []):=by show bg (bg (bg H l _) m _) t _ l=_;rw[av (RJ ntl),av (RJ nm),au]
 have hm2:H2 m=some (.lst []):=by show bg (bg (bg H l _) m _) t _ m=_;rw[av (RJ nt),au]
 obtain⟨Y,R4,N4⟩:=R.later (T:=λa=>a∈[l,m]) (F':=bg F t (.tup [.ref l,.ref m])) (H':=H2) sF (λa u z=>by
  by_cases w:a=t;·subst w;rw[au]at z;cases z;exact au
  ·rw[av w]at z;exact up a u (R.rel.sm a u z)) dn up (λa z⟨u,g,_⟩=>by
  have:a≠t:=λw=>by rw[w,ht]at g;cases g
  rw[av this];exact z) λa ha=>by
  rcases Re ha with w|w;·rw[w];exact hl
  ·rw[RW]at w;rw[w];exact hm
 exact q _ _ _ [l,m] _ Y R4 ⟨t,l,m,[],[],rfl,rfl,λw=>nm w.symm,.inl (.inl au),by rw[av (RJ ntl)];exact fr hl,by rw[av (RJ nt)];exact fr hm,hl2,hm2,aT.nil,aT.nil⟩ N4
end
def sZ(i:Nat):Nat->List Ob->gc|_,[]=>[]|k,o::r=>(.it i k,o)::sZ i (k+1) r
theorem rA{i:Nat}{p:Lc×Ob}:∀{os:List Ob}{k:Nat},p∈sZ i k os->∃j,p.1=.it i (k+j)/\os[j]?=some p.2
 |[],_,h=>by cases h|o::r,k,h=>by
  rcases Re h with rfl|h;·exact⟨0,rfl,rfl⟩
  ·obtain⟨j,h1,h2⟩:=rA h;exact⟨j+1,by rw[h1];congr 1;lia,by simpa using h2⟩
def vE(i:Nat)(ts:List Nw)(fp:Lc->List xM):Lc->List xM:=λc=>if c.slot=i then(match c with|.it _ k=>((ts[k]?).map λt=>t.2.2).getD []|.s _=>[]) else fp c
def Gc(i:Nat)(fs:GN):XS:=λx=>(fs x).bind λp=>if i<p.2.1.length/\p.1.length<=1000 then some (.nx (p.2.1.set i none,sZ i 0 p.1++j5 i p.2.2)) else none
section
variable{X:Cx}{K:Rj}{C:xM}{fs:GN}{es:List Rl}{pos:Pos}{i:Nat}
theorem Dn{x:Str}{pos' q0:Pos}(hN:X.N.Nodup)(hi:X.N[i]?=some x)(hx:zo X.env.scope x)(he:PA X es (Mb K C fs))(hs:Tx (.List es q0) (some (.Name x pos')) pos.line X.env=pure false)(hf:X.fn x=true\/X.env.scope.names.lookup x=some .local):PS X (.Assign [.Name x pos'] (.List es q0) pos) (qe K C (Gc i fs) [i]):=by
 refine(vQ hN hi hx (vN he) hs hf).mono λD σ H h=>?_;obtain⟨F,x,fp,fl,R,hf,q⟩:=h;unfold Gc at hf;obtain⟨⟨os,x1⟩,h1,hf⟩:=Q6 hf;split at hf;case isFalse=>cases hf
 case isTrue hlt=>
 obtain⟨hlt,hle⟩:=hlt;dsimp only at hlt hle;cases hf;refine⟨F,x,fp,os,x1,R,h1,λF1 H1 ts fp1 e1 X1 R1 N1=>⟨?_,λl hl=>?_⟩⟩
 ·have:1000<=RH:=by decide
  have:(ts.map λt=>t.2.1).length=os.length:=by rw[<-e1,RQ,RQ]
  lia
 subst e1;have fl:F1 l=none:=R1.rel.freeF hl;have up:∀a u,H1 a=some u->bg H1 l (.lst (ts.map λt=>t.2.1)) a=some u:=λa u z=>by rw[av (λw=>by rw[w,hl]at z;cases z)];exact z
 have sF:ao F1 (bg F1 l (.lst (ts.map λt=>t.2.1))):=ao.new fl;obtain⟨Y,R2,_⟩:=R1.later (T:=λ_=>False) (F':=bg F1 l (.lst (ts.map λt=>t.2.1))) (H':=bg H1 l (.lst (ts.map λt=>t.2.1))) sF (λa u z=>by
  by_cases w:a=l;·subst w;rw[au]at z;cases z;exact au
  ·rw[av w]at z;exact up a u (R1.rel.sm a u z)) (λa z=>by
  by_cases w:a=l;·rw[w];exact hl
  ·rwa[av w]at z) up (λa z⟨u,g,_⟩=>by rw[av (λw=>by rw[w,hl]at g;cases g)];exact z) λa ha=>ha.elim;have at2:∀t∈ts,fm K C (bg F1 l (.lst (ts.map λt=>t.2.1))) (bg H1 l (.lst (ts.map λt=>t.2.1))) t.1 t.2.1 t.2.2:=λt ht=>(N1.at_ t ht).keep Y λa ha=>⟨(N1.no a ⟨t,ht,ha⟩).2,(N1.no a ⟨t,ht,ha⟩).1⟩;have old:∀a,qc ts a->H1 a≠none:=λa⟨t,ht,ha⟩z=>by obtain⟨_,u,g,_⟩:=(N1.at_ t ht).at a ha;rw[g]at z;cases z
 have R3:=(R2.rel.drop i).poke (some (V.ref l));have o3:∀a,bi (σ.set i (some (V.ref l))) (x1.1.set i none) (bg H1 l (.lst (ts.map λt=>t.2.1))) a->(bi σ x1.1 H1 a\/Fo x1.2 fp1 a)\/H1 a=none:=λa⟨j,z⟩=>Y.own a (.inl (bi.drop ⟨j,eE.mp z⟩));have mo:∀{p},p∈j5 i x1.2->p∈x1.2/\p.1.slot≠i:=fun{p}h=>by obtain⟨h1,h2⟩:=Tj.mp h;exact⟨h1,by simpa using h2⟩
 have nt:∀{p},p∈sZ i 0 (ts.map (·.1))->∃(j:Nat) (t:Nw),p.1=.it i j/\ts[j]?=some t/\p.2=t.1/\vE i ts fp1 p.1=t.2.2:=fun{p}h=>by obtain⟨j,h1,h2⟩:=rA h;rw[Ub]at h1;rw[RY]at h2;obtain⟨t,h3,h4⟩:=Q7 h2;refine⟨j,t,h1,h3,h4.symm,?_⟩;rw[h1];refine(if_pos (show(Lc.it i j).slot=i from rfl)).trans ?_;show((ts[j]?).map λt=>t.2.2).getD []=_;rw[h3];rfl
 have fo:∀{p:Lc×Ob},p.1.slot≠i->vE i ts fp1 p.1=fp1 p.1:=λh=>if_neg h;have sub:∀a,Fo (sZ i 0 (ts.map (·.1))++j5 i x1.2) (vE i ts fp1) a->Fo x1.2 fp1 a\/qc ts a:=by
  rintro a⟨p,hp,ha⟩;rcases Q9 hp with hp|hp;·obtain⟨j,t,g1,g2,g3,g4⟩:=nt hp;rw[g4]at ha;exact .inr ⟨t,Rf g2,ha⟩
  ·obtain⟨g1,g2⟩:=mo hp;rw[fo g2]at ha;exact .inl ⟨p,g1,ha⟩
 refine q _ _ _ (vE i ts fp1) ((X1.mono (λj h=>by cases h)).trans ⟨sF,Y.dom,λa vs h1 h2 _ _=>by rw[av (λw=>by rw[w,hl]at h2;cases h2)];exact h1,Y.lst,λa u h _ _=>up a u h,λa z=>?_,λj n=>RI (λz=>n (by simp[z])),λa m h1 h2 _ _=>by rw[av (λw=>by rw[w,hl]at h2;cases h2)];exact h1⟩) ⟨R3,λp hp=>?_,λp hp s hs hne a ha hb=>?_,λa ha z=>?_⟩
 ·rcases z with z|z;·exact(o3 a z).imp_left λw=>w.imp_right .inl
  ·exact .inl (.inr (sub a z))
 ·rcases Q9 hp with hp|hp
  ·obtain⟨j,t,g1,g2,g3,g4⟩:=nt hp;refine⟨by rw[g1];exact Sj hlt,t.2.1,?_,?_⟩;·rw[g1];exact⟨l,_,Sj (by rw[R2.rel.len];exact hlt),au,by rw[RY,g2];rfl⟩
   ·rw[g3,g4];exact at2 t (Rf g2)
  ·obtain⟨g1,g2⟩:=mo hp;obtain⟨c1,u,c2,c3⟩:=R2.obs p g1;exact⟨by rw[RI (RJ g2)];exact c1,u,c2.mono (ao.refl _) (RI (RJ g2)),by rw[fo g2];exact c3⟩
 ·rcases Q9 hp with hp|hp
  ·obtain⟨j,t,g1,g2,g3,g4⟩:=nt hp;rw[g4]at ha;rcases Q9 hs with hs|hs
   ·obtain⟨k,t',d1,d2,d3,d4⟩:=nt hs;rw[d4]at hb;have pw:=Wi.mp N1.dis;obtain⟨w1,w2⟩:=Q8 g2;obtain⟨v1,v2⟩:=Q8 d2;rcases Nat.lt_trichotomy j k with c|c|c;·have:=pw j k w1 v1 c;rw[w2,v2]at this;exact this a ha hb
    ·exact hne (by rw[g1,d1,c])
    ·have:=pw k j v1 w1 c;rw[w2,v2]at this;exact this a hb ha
   ·obtain⟨d1,d2⟩:=mo hs;rw[fo d2]at hb;exact(N1.no a ⟨t,Rf g2,ha⟩).1 ⟨s,d1,hb⟩
  ·obtain⟨g1,g2⟩:=mo hp;rw[fo g2]at ha;rcases Q9 hs with hs|hs;·obtain⟨k,t',d1,d2,d3,d4⟩:=nt hs;rw[d4]at hb;exact(N1.no a ⟨t',Rf d2,hb⟩).1 ⟨p,g1,ha⟩
   ·obtain⟨d1,d2⟩:=mo hs;rw[fo d2]at hb;exact R2.dis p g1 s d1 hne a ha hb
 ·rcases sub a ha with w|w;·exact R2.own a w (let⟨j,zq⟩:=z;bi.drop ⟨j,eE.mp zq⟩)
  ·rcases o3 a z with (y|y)|y;·exact(N1.no a w).2 y
   ·exact(N1.no a w).1 y
   ·exact old a w y
def ya(i:Nat)(fb:FE)(fs:XR):XR:=λx=>(fb x.1).bind λp=>match cG p.1 with|some n=>if 0<=n/\(x.2.lookup (.it i n.toNat)).isSome=true/\okO x.2 p.2=true then(fs (p.2,x.2)).map λq=>(.inl (.it i n.toNat)::q.1,q.2) else none|none=>none
end
section
variable{X:Cx}{K:Rj}{C:xM}{fb:FE}{fs:XR}{a b:Rl}{es:List Rl}{pos:Pos}{i:Nat}
theorem Dy(hK:X.K=K)(ha:PE X a (mJ i))(hb:PE X b (fE K fb))(hp:mM b)(hr:PA X es (Bn K C fs))(h:TF (.Subscript a b pos)=false):PA X (.Subscript a b pos::es) (Bn K C (ya i fb fs)):=by
 subst hK;refine(nV (CU zK ha hb hp) hr h).mono λσ H Q h=>?_;obtain⟨F,x,fp,rs,x',R,hf,q⟩:=h;unfold ya at hf;obtain⟨⟨r,e1⟩,h1,hf⟩:=Q6 hf;dsimp only at hf;split at hf;case h_2=>cases hf
 case h_1 n hn=>
 split at hf;case isFalse=>cases hf
 case isTrue hs=>obtain⟨n0,hs,ho⟩:=hs;obtain⟨⟨xs,x2⟩,h2,hf⟩:=Q7 hf;cases hf;obtain⟨o,ho'⟩:=UT.mp hs;obtain⟨_,v,g1,_⟩:=R.obs _ (bF ho');obtain⟨l,vs,d1,d2,d3⟩:=id g1;refine⟨.ref l,d1,F,x.1,r,e1,R.rel,h1,λF1 H1 y X1 R1 A1=>?_⟩;obtain⟨Y,R2⟩:=R.pure X1 R1 ho;have hy:=df A1 hn;subst hy;have hlt:n.toNat<vs.length:=(Q8 d3).1;refine⟨l,vs,n,v,rfl,rfl,fX.of (R1.sm _ _ (X1.sf _ _ d2)),by rw[i9 n0 (by lia)];exact d3,?_⟩;refine⟨F1,(e1,x.2),fp,xs,_,R2,h2,λF2 H2 us fp2 X2 R3 A2=>?_⟩;exact q F2 H2 (v::us) fp2 (Y.trans X2) R3 ⟨v,us,rfl,g1.mono (Y.sf.trans X2.sf) rfl,A2⟩
end
section
variable{K:Rj}{C:xM}{W:List Nat}{F H F' H' F2 F3:Hp}{σ σ':L2.St}{e e':En}{ob:gc}{fp:Lc->List xM}{i:Nat}{S S' T:xM->Prop}
theorem aP.later2(R:aP K C F H σ e ob fp)(sF:ao F F')(sm:ao F' H')(dom:∀a,H' a=none->H a=none)(lst:∀a vs,H a=some (.lst vs)->∃vs',H' a=some (.lst vs'))(tmp:∀a u,H a=some u->¬T a->H' a=some u)(fr:∀a,F a=none->(∃u,H a=some u/\(kept u=true\/B9 u=true))->¬T a->F' a=none)(hT:∀a,T a->¬Fo ob fp a/\¬bi σ e H a):bv [] σ F H e (λa=>Fo ob fp a\/T a) σ F' H' e (Fo ob fp)/\aP K C F' H' σ e ob fp:=by
 obtain⟨R2,o2⟩:=R.rel.keep sF sm (λa h=>by have nT:¬T a:=λz=>(hT a z).2 h;obtain⟨j,hj⟩:=h;obtain⟨h1,vs,h2⟩:=R.rel.fpAt hj;exact fr a h1 ⟨_,h2,.inl rfl⟩ nT) (λa o h q=>tmp a o q λz=>(hT a z).2 h);refine⟨⟨sF,dom,λa vs h1 h2 _ h4=>fr a h1 ⟨_,h2,.inl rfl⟩ λz=>h4 (.inr z),lst,λa u h _ h3=>tmp a u h λz=>h3 (.inr z),λa z=>?_,λj n=>rfl,λa m h1 h2 _ h4=>fr a h1 ⟨_,h2,.inr m.2⟩ λz=>h4 (.inr z)⟩,⟨R2,λp hp=>?_,R.dis,λa ha z=>R.own a ha ((o2 a).mp z)⟩⟩
 ·rcases z with z|z;·exact .inl (.inl ((o2 a).mp z))
  ·exact .inl (.inr (.inl z))
 ·obtain⟨c1,u,c2,c3⟩:=R.obs p hp;have nT:∀a∈fp p.1,¬T a:=λa ha z=>(hT a z).1 ⟨p,hp,ha⟩;refine⟨c1,u,c2.mono sF rfl,c3.mono sF (λa ha=>?_) λa ha=>?_⟩;·obtain⟨g1,w,g2,g3⟩:=R.at ⟨p,hp,ha⟩;exact fr a g1 ⟨w,g2,.inl g3⟩ (nT a ha)
  ·obtain⟨g1,w,g2,g3⟩:=R.at ⟨p,hp,ha⟩;rw[g2];exact tmp a w g2 (nT a ha)
theorem bf.thin(R:bf K F2 H σ e)(hd:∀a o,F2 a=some o->(∀xs,o≠.lst xs)->F3 a=some o)(sub:∀a,F2 a=none->F3 a=none)(sm:ao F3 H)(hf:∀(j:Nat) (s:Sv),e[j]?=some (some s)->zD s=true\/∃d v,s=.d d/\σ[j]?=some (some v)/\DA K F3 d v):bf K F3 H σ e:=by
 refine⟨sm,R.len,λj d q=>?_,λj xs q=>?_,λj yss q=>?_,R.fp⟩
 ·obtain⟨v,h1,h2⟩:=R.dat j d q;rcases hf j _ q with w|⟨d',v',w1,w2,w3⟩;·exact⟨v,h1,DA.dropL hd w h2⟩
  ·cases w1;exact⟨v',w2,w3⟩
 ·obtain⟨l',vs,h1,h2,h3,h4⟩:=R.own j xs q;rcases hf j _ q with w|⟨d',v',w1,w2,w3⟩;·exact⟨l',vs,h1,sub l' h2,h3,aT.dropL hd w h4⟩
  ·cases w1
 ·obtain⟨l',bs',h1,h2,h3,h4,h5,h6,h7⟩:=R.nst j yss q;refine⟨l',bs',h1,sub l' h2,h3,h4,h5,h6,λk b ys q1 q2=>?_⟩;obtain⟨h8,us,h9,h10⟩:=h7 k b ys q1 q2;have fy:bJ ys=true:=by
   rcases hf j _ q with w|⟨d',v',w1,w2,w3⟩;·simp only[zD,Sk]at w;exact w ys (Rf q2)
   ·cases w1
  exact⟨sub b h8,us,h9,aT.dropL hd fy h10⟩
theorem gY.dropL(hd:∀a o,F2 a=some o->(∀xs,o≠.lst xs)->F3 a=some o):∀{fs:List (Str×Rh)}{gs:List (Str×V)},(fs.all λp=>gy p.2)=true->gY K F2 fs gs->gY K F3 fs gs|[],_,_,q=>q|p::r,_,hf,⟨v,hs,e,a,b⟩=>by rw[List.all_cons,Sr]at hf;exact⟨v,hs,e,a.dropL hd hf.1,gY.dropL hd hf.2 b⟩
def qQ:Ob->Bool|.dk fs=>fs.all λp=>gy p.2|.st xs ys=>bJ xs&&bJ ys
theorem fm.dropL{o:Ob}{v:V}{as:List xM}(h:fm K C F2 H o v as)(hd:∀a o,F2 a=some o->(∀xs,o≠.lst xs)->F3 a=some o)(sub:∀a,F2 a=none->F3 a=none)(hf:qQ o=true):fm K C F3 H o v as:=by cases o with|dk fs=>obtain⟨p,dx,gs,rfl,rfl,h1,h2,h3⟩:=h;exact⟨p,dx,gs,rfl,rfl,sub p h1,h2,gY.dropL hd hf h3⟩|st xs ys=>
 obtain⟨t,l,m,vs,us,rfl,rfl,h0,h1,h2,h3,h4,h5,h6,h7⟩:=h;simp only[qQ,Sr]at hf;refine⟨t,l,m,vs,us,rfl,rfl,h0,?_,sub l h2,sub m h3,h4,h5,h6.dropL hd hf.1,h7.dropL hd hf.2⟩;rcases h1 with (h1|⟨o,h1⟩)|h1;·exact .inl (.inl (hd t _ h1 λxs z=>by cases z))
 ·exact .inl (.inr ⟨o,hd t _ h1 λxs z=>by cases z⟩)
 ·exact .inr h1
def Bo(W:List Nat)(i:Nat)(x y:EX):Prop:=(∀(j:Nat) (s:Sv),j≠i->y.1[j]?=some (some s)->zD s=true\/(j∉W/\x.1[j]?=some (some s)/\∃d,s=.d d))/\∀p∈y.2,p.1.slot≠i/\qQ p.2=true/\((∃j,p.1=.s j)\/(p.1.slot∉W/\∃o,(p.1,o)∈x.2))
theorem aP.view{xs ys:List Rh}(R:aP K C F H σ e ob fp)(hl:ob.lookup (.s i)=some (.st xs ys)):∃F1,aP K C F1 H σ (e.set i (some (.d (.tuple [.list xs,.list ys])))) (j5 i ob) fp/\∀(W:List Nat) (F2 H2:Hp) (σ2:L2.St) (y:EX) (fp2:Lc->List xM),i∉W->bv W σ F1 H (e.set i (some (.d (.tuple [.list xs,.list ys])))) (Fo (j5 i ob) fp) σ2 F2 H2 y.1 (Fo y.2 fp2)->aP K C F2 H2 σ2 y.1 y.2 fp2->Bo W i (e,ob) y->∃F3 fp3,bv W σ F H e (Fo ob fp) σ2 F3 H2 (y.1.set i none) (Fo ((.s i,.st xs ys)::y.2) fp3)/\aP K C F3 H2 σ2 (y.1.set i none) ((.s i,.st xs ys)::y.2) fp3/\∀d v,gy d=true->DA K F2 d v->DA K F3 d v:=by
 have hm:=bF hl;obtain⟨c1,v,g1,g2⟩:=R.obs _ hm;obtain⟨t,l,m,vs,us,rfl,ha,hlm,ht,fl0,fm0,hHl,hHm,dx,dy⟩:=g2;dsimp only at c1 ha;have g1:σ[i]?=some (some (.ref t)):=g1;have hlt:i<e.length:=(Q8 c1).1;have inl:Fo ob fp l:=⟨_,hm,by rw[ha];simp⟩;have inm:Fo ob fp m:=⟨_,hm,by rw[ha];simp⟩;let F1:Hp:=bg (bg F l (.lst vs)) m (.lst us);have f1l:F1 l=some (.lst vs):=by show bg (bg F l _) m _ l=_;rw[av hlm,au]
 have f1m:F1 m=some (.lst us):=au;have f1o:∀a,a≠l->a≠m->F1 a=F a:=λa n1 n2=>by show bg (bg F l _) m _ a=_;rw[av n2,av n1]
 have sF:ao F F1:=λa u z=>by
  have n1:a≠l:=λw=>by rw[w,fl0]at z;cases z
  have n2:a≠m:=λw=>by rw[w,fm0]at z;cases z
  rw[f1o a n1 n2];exact z
 have sm1:ao F1 H:=λa u z=>by
  by_cases n1:a=l;·subst n1;rw[f1l]at z;cases z;exact hHl
  by_cases n2:a=m;·subst n2;rw[f1m]at z;cases z;exact hHm
  rw[f1o a n1 n2]at z;exact R.rel.sm a u z
 obtain⟨Ra,oa⟩:=R.rel.keep sF sm1 (λa h=>by have n1:a≠l:=λw=>R.own l inl (w▸h);have n2:a≠m:=λw=>R.own m inm (w▸h);obtain⟨j,hj⟩:=h;rw[f1o a n1 n2];exact(R.rel.fpAt hj).1) (λa o _ q=>q);have dD:DA K F1 (.tuple [.list xs,.list ys]) (.ref t):=cO.mpr ⟨t,[.ref l,.ref m],rfl,sF.tup ht,by simp only[aT];exact⟨.ref l,[.ref m],rfl,eC.mpr ⟨l,vs,rfl,fX.of f1l,dx.mono sF⟩,.ref m,[],rfl,eC.mpr ⟨m,us,rfl,fX.of f1m,dy.mono sF⟩,rfl⟩⟩;obtain⟨Rb,ob2⟩:=Ra.setD i dD;have es:σ.set i (some (.ref t))=σ:=by obtain⟨w1,w2⟩:=Q8 g1;rw[<-w2];exact List.set_getElem_self w1
 rw[es]at Rb ob2;have mo:∀{p},p∈j5 i ob->p∈ob/\p.1.slot≠i:=fun{p}h=>by obtain⟨h1,h2⟩:=Tj.mp h;exact⟨h1,by simpa using h2⟩
 have sub:∀a,Fo (j5 i ob) fp a->Fo ob fp a:=λa⟨p,hp,ha⟩=>⟨p,(mo hp).1,ha⟩;have nlm:∀p∈j5 i ob,∀a∈fp p.1,a≠l/\a≠m:=λp hp a hb=>by have:=R.dis p (mo hp).1 _ hm (λz=>(mo hp).2 (by rw[z];rfl)) a hb;rw[ha]at this;simp at this;exact this
 refine⟨F1,⟨Rb,λp hp=>?_,λp hp q hq=>R.dis p (mo hp).1 q (mo hq).1,λa h z=>R.own a (sub a h) ((oa a).mp (ob2 a z))⟩,?_⟩;·obtain⟨d1,u,d2,d3⟩:=R.obs p (mo hp).1;exact⟨by rw[RI (RJ (mo hp).2)];exact d1,u,d2.mono sF rfl,d3.mono sF (λa h=>by rw[f1o a (nlm p hp a h).1 (nlm p hp a h).2];exact(d3.at a h).1) λ_ _=>rfl⟩
 intro W F2 H2 σ2 y fp2 hi X2 R2 hflat;obtain⟨hf1,hf2⟩:=hflat;have f2l:=X2.sf _ _ f1l;have f2m:=X2.sf _ _ f1m;let F3:Hp:=λa=>if a=l\/a=m then none else F2 a;have pos:∀a,a=l\/a=m->F3 a=none:=λa h=>if_pos h;have neg:∀a,¬(a=l\/a=m)->F3 a=F2 a:=λa h=>if_neg h;have hd:∀a o,F2 a=some o->(∀xs,o≠.lst xs)->F3 a=some o:=λa o z n=>by
  rw[neg a];·exact z
  ·rintro(w|w);·rw[w,f2l]at z;cases z;exact n _ rfl
   ·rw[w,f2m]at z;cases z;exact n _ rfl
 have sub3:∀a,F2 a=none->F3 a=none:=λa z=>by
  by_cases w:a=l\/a=m;·exact pos a w
  ·rw[neg a w];exact z
 have to2:∀a u,F3 a=some u->F2 a=some u:=λa u z=>by
  by_cases w:a=l\/a=m;·rw[pos a w]at z;cases z
  ·rw[neg a w]at z;exact z
 have s3:ao F F3:=λa u z=>by
  rw[neg a];·exact X2.sf _ _ (sF a u z)
  ·rintro(w|w);·rw[w,fl0]at z;cases z
   ·rw[w,fm0]at z;cases z
 have hs2:σ2[i]?=some (some (.ref t)):=by rw[X2.wr i hi];exact g1
 have hly:i<y.1.length:=by rw[<-R2.rel.len];exact(Q8 hs2).1
 have gj:∀j,j≠i->(y.1.set i none)[j]?=y.1[j]?:=λj n=>RI (RJ n);have R3:bf K F3 H2 σ2 (y.1.set i none):=(R2.rel.drop i).thin hd sub3 (λa u z=>R2.rel.sm a u (to2 a u z)) λj s q=>by
  by_cases w:j=i;·rw[w,Sj hly]at q;cases q
  ·rw[gj j w]at q;rcases hf1 j s w q with z|⟨z1,z2,d,rfl⟩;·exact .inl z
   ·obtain⟨v,u1,u2⟩:=R.rel.dat j d z2;exact .inr ⟨d,v,rfl,by rw[X2.wr j z1];exact u1,u2.mono s3⟩
 have nlm2:∀a,Fo y.2 fp2 a->¬(a=l\/a=m):=λa h z=>by
  have:=(R2.at h).1;rcases z with z|z;·rw[z,f2l]at this;cases this
  ·rw[z,f2m]at this;cases this
 let fp3:Lc->List xM:=λc=>if c=.s i then[l,m]else fp2 c;have f3o:∀{p},p∈y.2->fp3 p.1=fp2 p.1:=fun{p}hp=>by have:=(hf2 p hp).1;exact if_neg (by intro w;rw[w]at this;exact this rfl)
 have f3i:fp3 (.s i)=[l,m]:=if_pos rfl;have o1:∀a,bi σ (e.set i (some (.d (.tuple [.list xs,.list ys])))) H a->bi σ e H a:=λa z=>(oa a).mp (ob2 a z);have ow2:∀a,bi σ2 (y.1.set i none) H2 a->bi σ2 y.1 H2 a:=λa z=>bi.drop z;refine⟨F3,fp3,⟨s3,X2.dom,λa ws h1 h2 h3 h4=>?_,X2.lst,λa u h1 h3 h4=>X2.tmp a u h1 (λz=>h3 (o1 a z)) λz=>h4 (sub a z),λa z=>?_,X2.wr,λa d h1 h2 h3 h4=>?_⟩,⟨R3,λp hp=>?_,λp hp q hq hne a hA hB=>?_,λa hA z=>?_⟩,λd v hf h=>h.dropL hd hf⟩;·have n1:a≠l:=λw=>h4 (w▸inl);have n2:a≠m:=λw=>h4 (w▸inm);exact sub3 a (X2.fr a ws (by rw[f1o a n1 n2];exact h1) h2 (λz=>h3 (o1 a z)) λz=>h4 (sub a z))
 ·rcases z with z|⟨p,hp,z⟩;·exact(X2.own a (.inl (ow2 a z))).imp_left λw=>w.imp (o1 a) (sub a)
  ·rcases Re hp with rfl|hp
   ·rw[f3i]at z;rcases Re z with rfl|z;·exact .inl (.inr inl)
    ·rw[RW]at z;subst z;exact .inl (.inr inm)
   ·rw[f3o hp]at z;exact(X2.own a (.inr ⟨p,hp,z⟩)).imp_left λw=>w.imp (o1 a) (sub a)
 ·have n1:a≠l:=λw=>h4 (w▸inl);have n2:a≠m:=λw=>h4 (w▸inm);exact sub3 a (X2.fd a d (by rw[f1o a n1 n2];exact h1) h2 (λz=>h3 (o1 a z)) λz=>h4 (sub a z))
 ·rcases Re hp with rfl|hp;·exact⟨Sj hly,.ref t,hs2,t,l,m,vs,us,rfl,f3i,hlm,s3.tup ht,pos l (.inl rfl),pos m (.inr rfl),R2.rel.sm _ _ f2l,R2.rel.sm _ _ f2m,dx.mono s3,dy.mono s3⟩
  ·obtain⟨h2,h3,h1⟩:=hf2 p hp;obtain⟨d1,u,d2,d3⟩:=R2.obs p hp;refine⟨(gj _ h2).trans d1,u,?_,?_⟩
   ·rcases h1 with⟨j,h1⟩|⟨hw,o,ho⟩;·rw[h1]at d2⊢;exact d2
    ·obtain⟨pl,po⟩:=p;cases pl with|s j=>exact d2|it j k=>
     obtain⟨l',vs',e1,e2,e3⟩:=d2;obtain⟨_,_,⟨l0,vs0,g1',g2',_⟩,_⟩:=R.obs _ ho;have e1':σ[j]?=some (some (.ref l')):=by rw[<-X2.wr j hw];exact e1
     rw[g1']at e1';cases e1';refine⟨l',vs',e1,?_,e3⟩;rw[neg l'];·exact e2
     ·rintro(w|w);·rw[w,fl0]at g2';cases g2'
      ·rw[w,fm0]at g2';cases g2'
   ·rw[f3o hp];exact d3.dropL hd sub3 h3
 ·rcases Re hp with rfl|hp
  ·rcases Re hq with rfl|hq;·exact hne rfl
   ·rw[f3i]at hA;rw[f3o hq]at hB;exact nlm2 a ⟨q,hq,hB⟩ (by simpa using hA)
  ·rw[f3o hp]at hA;rcases Re hq with rfl|hq;·rw[f3i]at hB;exact nlm2 a ⟨p,hp,hA⟩ (by simpa using hB)
   ·rw[f3o hq]at hB;exact R2.dis p hp q hq hne a hA hB
 ·obtain⟨p,hp,hA⟩:=hA;rcases Re hp with rfl|hp
  ·rw[f3i]at hA;obtain⟨j,hj⟩:=ow2 a z;have:=(R2.rel.fpAt hj).1;rcases Re hA with rfl|w;·rw[f2l]at this;cases this
   ·rw[RW]at w;subst w;rw[f2m]at this;cases this
  ·rw[f3o hp]at hA;exact R2.own a ⟨p,hp,hA⟩ (ow2 a z)
def GS(i:Nat)(xs ys:List Rh)(y:EX):EX:=(y.1.set i none,(.s i,.st xs ys)::y.2)
open Classical in noncomputable def Gs(i:Nat)(f:XT):XT:=λx=>match x.2.lookup (.s i) with|some (.st xs ys)=>(f (x.1.set i (some (.d (.tuple [.list xs,.list ys]))),j5 i x.2)).bind λp=>if Bo [] i x p.2 then some (p.1,GS i xs ys p.2) else none|_=>none
theorem Dp{X:Cx}{c:Rl}{f:XT}(h:PT X c (sT K C f)):PT X c (sT K C (Gs i f)):=h.mono λσ H Q h=>by
 obtain⟨F,x,fp,b,x',R,hf,q⟩:=h;unfold Gs at hf;split at hf;case h_2=>cases hf
 case h_1 xs ys hl=>
 obtain⟨⟨b1,y⟩,h1,hf⟩:=Q6 hf;dsimp only at hf;split at hf;case isFalse=>cases hf
 case isTrue hc=>cases hf;obtain⟨F1,R1,back⟩:=R.view hl;refine⟨F1,_,fp,b,y,R1,h1,λF2 H2 fp2 X2 R2=>?_⟩;obtain⟨F3,fp3,X3,R3,_⟩:=back [] F2 H2 σ y fp2 (by simp) X2 R2 hc;exact q F3 H2 fp3 X3 R3
end
abbrev NX:=EX->Option (Nat×EX)
section
variable{X:Cx}{K:Rj}{C:xM}{W W1 W2:List Nat}{st:Rx}{aB:List Rx}{f:XS}{g:NX}{pos:Pos}{a:Rl}{i:Nat}
end
section
variable{P:Rw}{w:Ro}{K:Rj}{C:xM}{mg:Str->Option Oq}{base:Ru}
end
section
variable{X:Cx}{K:Rj}{C:xM}{fa:XE}{fn:XN}{fs:XR}{a b:Rl}{es:List Rl}{pos apos p p2:Pos}{i:Nat}
end
abbrev Gr:=Ob⊕Rh
abbrev XG:=EX->Option (List Gr×EX)
abbrev Gv:=V×List xM
def zm(ts:List Gv)(a:xM):Prop:=∃t∈ts,a∈t.2
def yi(K:Rj)(C:xM)(F H:Hp):List Gr->List Gv->Prop|[],ts=>ts=[]|.inl o::r,ts=>∃v as s,ts=(v,as)::s/\fm K C F H o v as/\yi K C F H r s|.inr d::r,ts=>∃v s,ts=(v,[])::s/\DA K F d v/\yi K C F H r s
structure Mo (K:Rj) (C:xM) (F H:Hp) (σ:L2.St) (e:En) (S:xM->Prop) (rs:List Gr) (ts:List Gv):Prop where
 at_:yi K C F H rs ts
 no:∀a,zm ts a->¬S a/\¬bi σ e H a
 dis:ts.Pairwise λt s=>∀a∈t.2,a∉s.2
def HR(K:Rj)(C:xM)(f:XG):TA:=λσ H Q=>∃F x fp rs x',aP K C F H σ x.1 x.2 fp/\f x=some (rs,x')/\∀F' H' ts fp',bv [] σ F H x.1 (Fo x.2 fp) σ F' H' x'.1 (λa=>Fo x'.2 fp' a\/zm ts a)->aP K C F' H' σ x'.1 x'.2 fp'->Mo K C F' H' σ x'.1 (Fo x'.2 fp') rs ts->Q (ts.map (·.1)) H'
def MI:XG:=λx=>some ([],x)
def EH(fn:XN)(fs:XG):XG:=λx=>(fn x).bind λp=>(fs p.2).map λq=>(.inl p.1::q.1,q.2)
def BU(fa:XE)(fs:XG):XG:=λx=>(fa x).bind λp=>(fs p.2).map λq=>(.inr p.1::q.1,q.2)
def tJ:Nat->List Gr->List Ar|_,[]=>[]|k,.inl _::r=>.inl (.s k)::tJ (k+1) r|k,.inr d::r=>.inr d::tJ (k+1) r
def oG:Nat->List Gr->gc|_,[]=>[]|k,.inl o::r=>(.s k,o)::oG (k+1) r|k,.inr _::r=>oG (k+1) r
def Kw(ts:List Gv):Lc->List xM:=λc=>match c with|.s k=>((ts[k]?).map (·.2)).getD []|.it _ _=>[]
theorem uQ:∀{rs:List Gr}{k:Nat},(tJ k rs).length=rs.length|[],_=>rfl|.inl _::r,k=>by simp[tJ,uQ (rs:=r)]|.inr _::r,k=>by simp[tJ,uQ (rs:=r)]
theorem o8{p:Lc×Ob}:∀{rs:List Gr}{k:Nat},p∈oG k rs->∃j,p.1=.s (k+j)/\rs[j]?=some (.inl p.2)
 |[],_,h=>by cases h|.inl o::r,k,h=>by
  rcases Re h with rfl|h;·exact⟨0,rfl,rfl⟩
  ·obtain⟨j,h1,h2⟩:=o8 h;exact⟨j+1,by rw[h1];congr 1;lia,by simpa using h2⟩|.inr d::r,k,h=>by obtain⟨j,h1,h2⟩:=o8 (rs:=r) (k:=k+1) h;exact⟨j+1,by rw[h1];congr 1;lia,by simpa using h2⟩
theorem yi.len{K:Rj}{C:xM}{F H:Hp}:∀{rs:List Gr}{ts:List Gv},yi K C F H rs ts->rs.length=ts.length|[],ts,h=>by rw[show ts=[]from h];rfl|.inl o::r,_,⟨v,as,s,e,h1,h2⟩=>by rw[e];simp[yi.len h2]|.inr d::r,_,⟨v,s,e,h1,h2⟩=>by rw[e];simp[yi.len h2]
theorem yi.d{K:Rj}{C:xM}{F H:Hp}{d:Rh}:∀{rs:List Gr}{ts:List Gv}{k j:Nat},yi K C F H rs ts->(tJ j rs)[k]?=some (.inr d)->∃v,(ts.map (·.1))[k]?=some v/\DA K F d v
 |[],_,k,_,_,h=>by simp[tJ]at h|.inl c::r,_,k,j,⟨v,as,s,e,h1,h2⟩,h=>by subst e;cases k with|zero=>simp[tJ]at h|succ k=>simpa using yi.d (rs:=r) (k:=k) (j:=j+1) h2 (by simpa[tJ]using h)
 |.inr d'::r,_,k,j,⟨v,s,e,h1,h2⟩,h=>by subst e;cases k with|zero=>simp[tJ]at h;subst h;exact⟨v,rfl,h1⟩|succ k=>simpa using yi.d (rs:=r) (k:=k) (j:=j+1) h2 (by simpa[tJ]using h)
theorem yi.o{K:Rj}{C:xM}{F H:Hp}{o:Ob}:∀{rs:List Gr}{ts:List Gv}{k:Nat},yi K C F H rs ts->rs[k]?=some (.inl o)->∃t,ts[k]?=some t/\fm K C F H o t.1 t.2
 |[],_,k,_,h=>by simp at h|.inl c::r,_,k,⟨v,as,s,e,h1,h2⟩,h=>by subst e;cases k with|zero=>simp at h;subst h;exact⟨(v,as),rfl,h1⟩|succ k=>simpa using yi.o (rs:=r) (k:=k) h2 (by simpa using h)
 |.inr d'::r,_,k,⟨v,s,e,h1,h2⟩,h=>by subst e;cases k with|zero=>simp at h|succ k=>simpa using yi.o (rs:=r) (k:=k) h2 (by simpa using h)
def sJ(n:Nat)(m:MX)(fs:XG):XE:=λx=>(fs x).bind λp=>(m (lS (tJ 0 p.1),oG 0 p.1)).bind λz=>if p.1.length=n then some (z.1,p.2) else none
section
variable{X:Cx}{K:Rj}{C:xM}{F H F1 H1 F2 H2:Hp}{σ:L2.St}{fa:XE}{fn:XN}{fs:XG}{a b:Rl}{es:List Rl}{pos apos p p2:Pos}{i:Nat}
theorem KA{e e1 e2:En}{S S1 S2:xM->Prop}{o:Ob}{v:V}{ws:List xM}{rs:List Gr}{ts:List Gv}(X1:bv [] σ F H e S σ F1 H1 e1 λa=>S1 a\/a∈ws)(A1:fm K C F1 H1 o v ws)(N1:∀a,a∈ws->¬S1 a/\¬bi σ e1 H1 a)(X2:bv [] σ F1 H1 e1 S1 σ F2 H2 e2 λa=>S2 a\/zm ts a)(N2:Mo K C F2 H2 σ e2 S2 rs ts):bv [] σ F H e S σ F2 H2 e2 (λa=>S2 a\/zm ((v,ws)::ts) a)/\Mo K C F2 H2 σ e2 S2 (.inl o::rs) ((v,ws)::ts):=by
 have X2':=X2.addS (T:=λa=>a∈ws) λa ha=>⟨(N1 a ha).2,(N1 a ha).1,λz=>by obtain⟨_,u,g,_⟩:=A1.at a ha;rw[g]at z;cases z⟩;have A2:=A1.keep X2 λa ha=>⟨(N1 a ha).2,(N1 a ha).1⟩;have old:∀a,a∈ws->¬(bi σ e2 H2 a\/(S2 a\/zm ts a)):=λa ha z=>by
  rcases X2.own a z with w|w;·exact w.elim (N1 a ha).2 (N1 a ha).1
  ·obtain⟨_,u,g,_⟩:=A1.at a ha;rw[g]at w;cases w
 have cn:∀a,zm ((v,ws)::ts) a↔a∈ws\/zm ts a:=λa=>by unfold zm;simp
 refine⟨?_,⟨v,ws,ts,rfl,A2,N2.at_⟩,λa ha=>?_,?_⟩;·have Y:=X1.trans X2';exact⟨Y.sf,Y.dom,Y.fr,Y.lst,Y.tmp,λa z=>Y.own a (z.imp_right λw=>by
  rcases w with w|w;·exact .inl (.inl w)
  ·exact((cn a).mp w).elim (λw=>.inr w) λw=>.inl (.inr w)),Y.wr,Y.fd⟩
 ·rcases(cn a).mp ha with w|w;·exact⟨λz=>old a w (.inr (.inl z)),λz=>old a w (.inl z)⟩
  ·exact N2.no a w
 ·exact UY.mpr ⟨λt ht a ha hb=>old a ha (.inr (.inr ⟨t,ht,hb⟩)),N2.dis⟩
theorem EI:PA X [] (HR K C MI):=fL.mono λσ H Q h=>by obtain⟨F,x,fp,os,x',R,hf,q⟩:=h;cases hf;exact q F H [] fp ⟨ao.refl _,λ_ h=>h,λ_ _ h _ _ _=>h,λ_ vs h=>⟨vs,h⟩,λ_ _ h _ _=>h,λa z=>.inl (z.imp_right λw=>w.elim id λ⟨_,h,_⟩=>by cases h),λ_ _=>rfl,λ_ _ h _ _ _=>h⟩ R ⟨rfl,λa⟨t,h,_⟩=>(by cases h),.nil⟩
theorem Kz(ha:PE X a (Ke K C fn))(hr:PA X es (HR K C fs))(h:TF a=false):PA X (a::es) (HR K C (EH fn fs)):=(nV ha hr h).mono λσ H Q h=>by obtain⟨F,x,fp,os,x',R,hf,q⟩:=h;unfold EH at hf;obtain⟨⟨o,x1⟩,h1,hf⟩:=Q6 hf;obtain⟨⟨os1,x2⟩,h2,hf⟩:=Q7 hf;cases hf;refine⟨F,x,fp,o,x1,R,h1,λF1 H1 v ws fp1 X1 R1 A1 N1=>⟨F1,x1,fp1,os1,x2,R1,h2,λF2 H2 ts fp2 X2 R2 N2=>?_⟩⟩;obtain⟨Y,N3⟩:=KA X1 A1 N1 X2 N2;exact q F2 H2 ((v,ws)::ts) fp2 Y R2 N3
theorem G1(ha:PE X a (ir K C fa))(hr:PA X es (HR K C fs))(h:TF a=false):PA X (a::es) (HR K C (BU fa fs)):=(nV ha hr h).mono λσ H Q h=>by
 obtain⟨F,x,fp,os,x',R,hf,q⟩:=h;unfold BU at hf;obtain⟨⟨d,x1⟩,h1,hf⟩:=Q6 hf;obtain⟨⟨os1,x2⟩,h2,hf⟩:=Q7 hf;cases hf;refine⟨F,x,fp,d,x1,R,h1,λF1 H1 v fp1 X1 R1 A1=>⟨F1,x1,fp1,os1,x2,R1,h2,λF2 H2 ts fp2 X2 R2 N2=>?_⟩⟩;have cn:∀a,zm ((v,[])::ts) a↔zm ts a:=λa=>by unfold zm;simp
 have Y:=X1.trans X2;exact q F2 H2 ((v,[])::ts) fp2 ⟨Y.sf,Y.dom,Y.fr,Y.lst,Y.tmp,λa z=>Y.own a (z.imp_right λw=>w.imp_right (cn a).mp),Y.wr,Y.fd⟩ R2 ⟨⟨v,ts,rfl,A1.mono X2.sf,N2.at_⟩,λa ha=>N2.no a ((cn a).mp ha),UY.mpr ⟨λt ht a ha=>(by cases ha),N2.dis⟩⟩
theorem Bj{n:Nat}{m:MX}{Q:VK}{E:XK}(h:ir K C (sJ n m fs) σ H Q):sx (lY K C n m) [] E (HR K C fs) σ H Q:=by
 obtain⟨F,x,fp,z,x',R,hf,q⟩:=h;unfold sJ at hf;obtain⟨⟨rs,x1⟩,h1,hf⟩:=Q6 hf;obtain⟨⟨r,oc⟩,h2,hf⟩:=Q6 hf;dsimp only at hf h2;split at hf;case isFalse=>cases hf
 case isTrue hlen=>
 cases hf;refine⟨F,x,fp,rs,_,R,h1,λF1 H1 ts fp1 X1 R1 N1=>?_⟩;show lY K C n m (ts.map (·.1)++[]) H1 Q E;rw[SQ];have fk:∀k t,ts[k]?=some t->Kw ts (.s k)=t.2:=λk t h=>by show((ts[k]?).map (·.2)).getD []=_;rw[h];rfl
 have sub:∀a,Fo (oG 0 rs) (Kw ts) a->zm ts a:=λa⟨p,hp,ha⟩=>by obtain⟨j,g1,g2⟩:=o8 hp;rw[Ub]at g1;obtain⟨t,g3,_⟩:=N1.at_.o g2;rw[g1,fk j t g3]at ha;exact⟨t,Rf g3,ha⟩
 have pw:=Wi.mp N1.dis;have Rc:aP K C F1 H1 ((ts.map (·.1)).map some) (lS (tJ 0 rs)) (oG 0 rs) (Kw ts):=by
  refine⟨zX R1.rel.sm (by rw[uQ,RQ,N1.at_.len]) λk d hk=>N1.at_.d hk,λp hp=>?_,λp hp p' hp' hne a ha hb=>?_,λa _=>cU (de _)⟩
  ·obtain⟨j,g1,g2⟩:=o8 hp;rw[Ub]at g1;obtain⟨t,g3,g4⟩:=N1.at_.o g2;rw[g1,fk j t g3];refine⟨?_,t.1,?_,g4⟩
   ·show(lS (tJ 0 rs))[j]?=_;have:∀{rs:List Gr}{k j:Nat}{o:Ob},rs[j]?=some (.inl o)->(tJ k rs)[j]?=some (.inl (.s (k+j))):=by intro rs;induction rs with|nil=>intro k j o h;simp at h|cons c r ih=>intro k j o h;cases j with|zero=>cases c<;>simp at h;simp[tJ]|succ j=>
       have h3:=ih (k:=k+1) (j:=j) (o:=o) (by simpa using h);have e:k+1+j=k+(j+1):=by lia
       rw[e]at h3;cases c<;>simpa[tJ]using h3
    unfold lS;rw[RY,this g2];rfl
   ·show((ts.map (·.1)).map some)[j]?=_;rw[RY,RY,g3];rfl
  ·obtain⟨j,g1,g2⟩:=o8 hp;obtain⟨j',g1',g2'⟩:=o8 hp';rw[Ub]at g1 g1';obtain⟨t,g3,_⟩:=N1.at_.o g2;obtain⟨t',g3',_⟩:=N1.at_.o g2';rw[g1,fk j t g3]at ha;rw[g1',fk j' t' g3']at hb;obtain⟨w1,w2⟩:=Q8 g3;obtain⟨v1,v2⟩:=Q8 g3';rcases Nat.lt_trichotomy j j' with c|c|c;·have:=pw j j' w1 v1 c;rw[w2,v2]at this;exact this a ha hb
   ·exact hne (by rw[g1,g1',c])
   ·have:=pw j' j v1 w1 c;rw[w2,v2]at this;exact this a hb ha
 refine⟨by rw[RQ,<-N1.at_.len];exact hlen,F1,(lS (tJ 0 rs),oG 0 rs),Kw ts,_,oc,Rc,de _,h2,λF' H' v fq X3 R3 A3=>?_⟩;have nO:∀a,¬bi ((ts.map (·.1)).map some) (lS (tJ 0 rs)) H1 a:=λa=>cU (de _);have nS:∀a,¬zm ts a->¬Fo (oG 0 rs) (Kw ts) a:=λa h z=>h (sub a z);obtain⟨Y,R4⟩:=R1.later2 (T:=zm ts) (F':=F') (H':=H') X3.sf R3.rel.sm X3.dom X3.lst (λa u z n=>X3.tmp a u z (nO a) (nS a n)) (λa g1⟨u,g2,g3⟩n=>by
   by_cases k:B9 u=true;·exact X3.fd a ⟨u,k⟩ g1 g2 (nO a) (nS a n)
   ·rcases g3 with g3|g3;·cases u with|lst us=>exact X3.fr a us g1 g2 (nO a) (nS a n)|ins c d fs=>exact absurd rfl k|_=>cases g3
    ·exact absurd g3 k) N1.no;exact q F' H' v fp1 (X1.trans Y) R4 A3
theorem C9{x:Str}{st:Rx}{f:xM}{fd:RD}{ps:List Str}{k n:Nat}{m:MX}{p:Pos}(h:dO X.K X.mg x st f fd ps)(G:aG X.prog X.w X.K X.mg X.base ck k f fd ps (lY K C n m))(hr:bX k X.A)(ha:PA X (a::es) (HR K C fs))(hg:Gl X x)(hdb:(x==("__debug__":Str))=false)(he:RB (a::es) X.env=(false,RC a X.env)::RB es X.env)(hpl:(RP pos (RB es X.env)).any (·.1)=false):PE X (.Call (.Name x p) (a::es) [] pos) (ir K C (sJ n m fs)):=(Fy h G hr ha hg hdb he hpl).mono λ_ _ _ h=>Bj h
end
section
variable{prog:Rw}{w:Ro}{A:Rz}{E:Oq->Rg->Prop}{s:Rg}{z TI TO i1 i2 i3 l1 l2 l3:xM}{k:Nat}{xs ys zs:Array Oq}{a b c:Oq}
theorem Ed{x y v:Oq}{Q:Oq->Rg->Prop}(D:uM z TI TO i1 i2 i3 l1 l2 l3)(hz:IsZip s.heap z TI TO .none)(hI:eA s.heap TI (.ref i1) (.ref i2) (.ref i3))(hO:eA s.heap TO a b c)(u1:w_ true i1 l1 k s.heap)(u2:w_ true i2 l2 k s.heap)(u3:w_ true i3 l3 k s.heap)(r1:tI true s.heap l1 xs)(r2:tI true s.heap l2 ys)(r3:tI true s.heap l3 zs)(hx:xs[k]?=some x)(hy:ys[k]?=some y)(hv:zs[k]?=some v)(q:∀g,IsZip g z TI TO (rawInt s.heap.objs.size)->eA g TO x y v->w_ true i1 l1 (k+1) g->w_ true i2 l2 (k+1) g->w_ true i3 l3 (k+1) g->eA g s.heap.objs.size x y v->g.objs.size=s.heap.objs.size+1->(∀c o,c≠z->c≠TO->c≠i1->c≠i2->c≠i3->s.heap.get? c=some o->g.get? c=some o)->Q (.ref s.heap.objs.size) {s with heap:=g}):Rr (Ry prog w) A (Builtin.«zip.__next__» ⟨[.ref z],[]⟩) (λf s'=>∃v,f=.done (.ret v)/\Q v s') E s:=by
 have P1:=km true (prog:=prog) (w:=w) i1 l1;have P2:=km true (prog:=prog) (w:=w) i2 l2;have P3:=km true (prog:=prog) (w:=w) i3 l3;obtain⟨z1n,z2n,z3n⟩:=D.nz;obtain⟨t1n,t2n,t3n⟩:=D.nT;obtain⟨n12,n13,n23⟩:=D.ni;obtain⟨la1,la2,la3,la4,la5⟩:=D.l l1 (.inl rfl);obtain⟨lb1,lb2,lb3,lb4,lb5⟩:=D.l l2 (.inr (.inl rfl));obtain⟨lc1,lc2,lc3,lc4,lc5⟩:=D.l l3 (.inr (.inr rfl));show Rr _ _ (field (.ref z) 2>>=_) _ _ _;refine Rq (SV hz rfl (x:=.bool false) rfl ?_);show Rr _ _ (field (.ref z) 3>>=_) _ _ _;refine Rq (SV hz rfl (x:=.ref TI) rfl ?_);refine Rq (TZ hI rfl ?_);show Rr _ _ (VI (.ref z)>>=_) _ _ _;refine Rq ?_;unfold VI;refine Rq (SV hz rfl (x:=.none) rfl (RG ?_));simp only[if_true];refine Rq (wpAny_rule ?_);refine Rq (SV hz rfl (x:=.ref TO) rfl ?_);refine Rq (UF hz (by simp) λg1 z1 e1=>?_);replace z1:IsZip g1 z TI TO .ellipsis:=z1;refine Rq ?_;simp only[List.zipIdx_cons,List.zipIdx_nil,List.forIn_cons,List.forIn_nil];refine Rq (Rq (UN ?_));show Rr _ _ (Tu (.ref i1)>>=_) _ _ _;refine Rq (P1.next (P1.stay u1 λo e=>e1.extBut _ _ z1n e) (P1.row r1 λo e=>e1.extBut _ _ la1 e) hx λg2 v1 e2=>RG ?_);have O2:eA g2 TO a b c:=e2.extBut _ _ t1n (e1.extBut _ _ D.nO hO);refine Rq (TZ O2 rfl ?_);refine Rq (oH O2 λg3 O3 e3=>?_);replace O3:eA g3 TO x b c:=O3;refine Rq (wpAny_letGo (RG ?_));refine Rq (Rq (UN ?_));show Rr _ _ (Tu (.ref i2)>>=_) _ _ _;have up3:∀c o,c≠z->c≠i1->c≠TO->s.heap.get? c=some o->g3.get? c=some o:=λc o n1 n2 n3 e=>e3.extBut _ _ n3 (e2.extBut _ _ n2 (e1.extBut _ _ n1 e));refine Rq (P2.next (P2.stay u2 λo e=>up3 _ _ z2n n12.symm t2n.symm e) (P2.row r2 λo e=>up3 _ _ lb1 lb3 lb2 e) hy λg4 v2 e4=>RG ?_);have O4:eA g4 TO x b c:=e4.extBut _ _ t2n O3;refine Rq (TZ O4 rfl ?_);refine Rq (oH O4 λg5 O5 e5=>?_);replace O5:eA g5 TO x y c:=O5;refine Rq (wpAny_letGo (RG ?_));refine Rq (Rq (UN ?_));show Rr _ _ (Tu (.ref i3)>>=_) _ _ _;have up5:∀c o,c≠z->c≠i1->c≠i2->c≠TO->s.heap.get? c=some o->g5.get? c=some o:=λc o n1 n2 n3 n4 e=>e5.extBut _ _ n4 (e4.extBut _ _ n3 (up3 c o n1 n2 n4 e));refine Rq (P3.next (P3.stay u3 λo e=>up5 _ _ z3n n13.symm n23.symm t3n.symm e) (P3.row r3 λo e=>up5 _ _ lc1 lc3 lc4 lc2 e) hv λg6 v3 e6=>RG ?_);have O6:eA g6 TO x y c:=e6.extBut _ _ t3n O5;refine Rq (TZ O6 rfl ?_);refine Rq (oH O6 λg7 O7 e7=>?_);replace O7:eA g7 TO x y v:=O7;refine Rq (wpAny_letGo (RG (RG ?_)));refine Rq (TZ O7 rfl ?_);refine Rq (wpAny_newTuple ?_);have sz:g7.objs.size=s.heap.objs.size:=by rw[e7.1,e6.1,e5.1,e4.1,e3.1,e2.1,e1.1]
 have z7:IsZip g7 z TI TO .ellipsis:=e7.extBut _ _ D.nO.symm (e6.extBut _ _ z3n.symm (e5.extBut _ _ D.nO.symm (e4.extBut _ _ z2n.symm (e3.extBut _ _ D.nO.symm (e2.extBut _ _ z1n.symm z1)))));have k7:∀c o,c≠z->c≠TO->c≠i1->c≠i2->c≠i3->s.heap.get? c=some o->g7.get? c=some o:=λc o n1 n2 n3 n4 n5 e=>e7.extBut _ _ n2 (e6.extBut _ _ n5 (up5 c o n1 n3 n4 n2 e));have w1:w_ true i1 l1 (k+1) g7:=P1.stay v1 λo e=>e7.extBut _ _ t1n.symm (e6.extBut _ _ n13 (e5.extBut _ _ t1n.symm (e4.extBut _ _ n12 (e3.extBut _ _ t1n.symm e))));have w2:w_ true i2 l2 (k+1) g7:=P2.stay v2 λo e=>e7.extBut _ _ t2n.symm (e6.extBut _ _ n23 (e5.extBut _ _ t2n.symm e));have w3:w_ true i3 l3 (k+1) g7:=P3.stay v3 λo e=>e7.extBut _ _ t3n.symm e;have lz:z<g7.objs.size:=RM z7;show Rr _ _ (Wr (.ref z) (.ref g7.objs.size)>>=_) _ _ _;refine Rq ?_;unfold Wr;have z6:IsZip (g7.push {cls:=.type "tuple",data:=.seq #[x,y,v]}) z TI TO .ellipsis:=Sf _ z7;refine Rq (UF z6 (by simp) λg8 z8 e8=>?_);replace z8:IsZip g8 z TI TO (rawInt g7.objs.size):=z8;refine UF z8 (by simp) λg9 z9 e9=>?_;replace z9:IsZip g9 z TI TO (rawInt g7.objs.size):=z9;have up:∀c o,c≠z->g7.get? c=some o->g9.get? c=some o:=λc o n e=>e9.extBut _ _ n (e8.extBut _ _ n (Sf _ e));have T9:eA g9 g7.objs.size x y v:=e9.extBut _ _ (Nat.ne_of_gt lz) (e8.extBut _ _ (Nat.ne_of_gt lz) (SA _ rfl));have n9:g9.objs.size=g7.objs.size+1:=by rw[e9.1,e8.1,Ts]
 rw[sz]at z9 T9 n9;refine RG ⟨_,rfl,?_⟩;show Q (.ref g7.objs.size) _;rw[sz];exact q g9 z9 (up _ _ D.nO O7) (P1.stay w1 λo e=>up _ o z1n e) (P2.stay w2 λo e=>up _ o z2n e) (P3.stay w3 λo e=>up _ o z3n e) T9 n9 λc o n1 n2 n3 n4 n5 e=>up c o n1 (k7 c o n1 n2 n3 n4 n5 e)
theorem Bk{Q:Fin->Rg->Prop}(hh:A.handled=none)(D:uM z TI TO i1 i2 i3 l1 l2 l3)(hz:IsZip s.heap z TI TO .none)(hI:eA s.heap TI (.ref i1) (.ref i2) (.ref i3))(hO:eA s.heap TO a b c)(u1:w_ true i1 l1 k s.heap)(u2:w_ true i2 l2 k s.heap)(u3:w_ true i3 l3 k s.heap)(r1:tI true s.heap l1 xs)(r2:tI true s.heap l2 ys)(r3:tI true s.heap l3 zs)(hn:xs[k]?=none\/ys[k]?=none\/zs[k]?=none)(q:∀g e,(∀c o,c≠z->c≠TO->c≠i1->c≠i2->c≠i3->s.heap.get? c=some o->g.get? c=some o)->(∃o,g.get? e=some o/\o.cls=.type "StopIteration")->E (.ref e) {s with heap:=g}):Rr (Ry prog w) A (Builtin.«zip.__next__» ⟨[.ref z],[]⟩) Q E s:=by
 have P1:=km true (prog:=prog) (w:=w) i1 l1;have P2:=km true (prog:=prog) (w:=w) i2 l2;have P3:=km true (prog:=prog) (w:=w) i3 l3;obtain⟨z1n,z2n,z3n⟩:=D.nz;obtain⟨t1n,t2n,t3n⟩:=D.nT;obtain⟨n12,n13,n23⟩:=D.ni;obtain⟨la1,la2,la3,la4,la5⟩:=D.l l1 (.inl rfl);obtain⟨lb1,lb2,lb3,lb4,lb5⟩:=D.l l2 (.inr (.inl rfl));obtain⟨lc1,lc2,lc3,lc4,lc5⟩:=D.l l3 (.inr (.inr rfl));show Rr _ _ (field (.ref z) 2>>=_) _ _ _;refine Rq (SV hz rfl (x:=.bool false) rfl ?_);show Rr _ _ (field (.ref z) 3>>=_) _ _ _;refine Rq (SV hz rfl (x:=.ref TI) rfl ?_);refine Rq (TZ hI rfl ?_);show Rr _ _ (VI (.ref z)>>=_) _ _ _;refine Rq ?_;unfold VI;refine Rq (SV hz rfl (x:=.none) rfl (RG ?_));simp only[if_true];refine Rq (wpAny_rule ?_);refine Rq (SV hz rfl (x:=.ref TO) rfl ?_);refine Rq (UF hz (by simp) λg1 z1 e1=>?_);replace z1:IsZip g1 z TI TO .ellipsis:=z1;refine Rq ?_;simp only[List.zipIdx_cons,List.zipIdx_nil,List.forIn_cons,List.forIn_nil]
 refine Rq (Rq (UN ?_));show Rr _ _ (Tu (.ref i1)>>=_) _ _ _;cases hx:xs[k]? with|none=>
  refine Rq (P1.last hh (P1.stay u1 λo e=>e1.extBut _ _ z1n e) (P1.row r1 λo e=>e1.extBut _ _ la1 e) hx λg2 e e2 he=>?_);obtain⟨oe,h1,h2⟩:=he;have z2:IsZip g2 z TI TO .ellipsis:=e2 _ _ z1n.symm z1;have nz:e≠z:=λx=>by subst x;rw[z2]at h1;cases h1;simp at h2
  refine UF z2 (by simp) λg3 _ e3=>q g3 e (λc o n1 _ n3 _ _ x=>e3.extBut _ _ n1 (e2 _ _ n3 (e1.extBut _ _ n1 x))) ⟨oe,e3.extBut _ _ nz h1,h2⟩|some x=>
  refine Rq (P1.next (P1.stay u1 λo e=>e1.extBut _ _ z1n e) (P1.row r1 λo e=>e1.extBut _ _ la1 e) hx λg2 v1 e2=>RG ?_);have O2:eA g2 TO a b c:=e2.extBut _ _ t1n (e1.extBut _ _ D.nO hO);refine Rq (TZ O2 rfl ?_);refine Rq (oH O2 λg3 O3 e3=>?_);replace O3:eA g3 TO x b c:=O3;refine Rq (wpAny_letGo (RG ?_));refine Rq (Rq (UN ?_));show Rr _ _ (Tu (.ref i2)>>=_) _ _ _;have up3:∀c o,c≠z->c≠i1->c≠TO->s.heap.get? c=some o->g3.get? c=some o:=λc o n1 n2 n3 e=>e3.extBut _ _ n3 (e2.extBut _ _ n2 (e1.extBut _ _ n1 e))
  have z3:IsZip g3 z TI TO .ellipsis:=e3.extBut _ _ D.nO.symm (e2.extBut _ _ z1n.symm z1);cases hy:ys[k]? with|none=>
   refine Rq (P2.last hh (P2.stay u2 λo e=>up3 _ _ z2n n12.symm t2n.symm e) (P2.row r2 λo e=>up3 _ _ lb1 lb3 lb2 e) hy λg4 e e4 he=>?_);obtain⟨oe,h1,h2⟩:=he;have z4:IsZip g4 z TI TO .ellipsis:=e4 _ _ z2n.symm z3;have nz:e≠z:=λx=>by subst x;rw[z4]at h1;cases h1;simp at h2
   refine UF z4 (by simp) λg5 _ e5=>q g5 e (λc o n1 n2 n3 n4 _ x=>e5.extBut _ _ n1 (e4 _ _ n4 (up3 c o n1 n3 n2 x))) ⟨oe,e5.extBut _ _ nz h1,h2⟩|some y=>
   have hv:zs[k]?=none:=by
    rcases hn with h|h|h;·rw[hx]at h;cases h
    ·rw[hy]at h;cases h
    ·exact h
   refine Rq (P2.next (P2.stay u2 λo e=>up3 _ _ z2n n12.symm t2n.symm e) (P2.row r2 λo e=>up3 _ _ lb1 lb3 lb2 e) hy λg4 v2 e4=>RG ?_);have O4:eA g4 TO x b c:=e4.extBut _ _ t2n O3;refine Rq (TZ O4 rfl ?_);refine Rq (oH O4 λg5 O5 e5=>?_);refine Rq (wpAny_letGo (RG ?_));refine Rq (Rq (UN ?_));show Rr _ _ (Tu (.ref i3)>>=_) _ _ _;have up5:∀c o,c≠z->c≠i1->c≠i2->c≠TO->s.heap.get? c=some o->g5.get? c=some o:=λc o n1 n2 n3 n4 e=>e5.extBut _ _ n4 (e4.extBut _ _ n3 (up3 c o n1 n2 n4 e));have z5:IsZip g5 z TI TO .ellipsis:=e5.extBut _ _ D.nO.symm (e4.extBut _ _ z2n.symm z3);refine Rq (P3.last hh (P3.stay u3 λo e=>up5 _ _ z3n n13.symm n23.symm t3n.symm e) (P3.row r3 λo e=>up5 _ _ lc1 lc3 lc4 lc2 e) hv λg6 e e6 he=>?_);obtain⟨oe,h1,h2⟩:=he;have z6:IsZip g6 z TI TO .ellipsis:=e6 _ _ z3n.symm z5;have nz:e≠z:=λx=>by subst x;rw[z6]at h1;cases h1;simp at h2
   refine UF z6 (by simp) λg7 _ e7=>q g7 e (λc o n1 n2 n3 n4 n5 x=>e7.extBut _ _ n1 (e6 _ _ n5 (up5 c o n1 n3 n4 n2 x))) ⟨oe,e7.extBut _ _ nz h1,h2⟩
theorem Bl(l1 l2 l3:xM)(xs ys zs:Array Oq):Meets (Builtin.«zip.__new__» ⟨[.type "zip",.ref l1,.ref l2,.ref l3],[]⟩) (λ_ R s=>tI true s.heap l1 xs/\tI true s.heap l2 ys/\tI true s.heap l3 zs/\R (.ok (.ret (.ref (s.heap.objs.size+5)))) {s with heap:=(((((s.heap.push (oB true l1)).push (oB true l2)).push (oB true l3)).push {cls:=.type "tuple",data:=.seq #[.ref s.heap.objs.size,.ref (s.heap.objs.size+1),.ref (s.heap.objs.size+2)]}).push {cls:=.type "tuple",data:=.seq #[.none,.none,.none]}).push {cls:=.type "zip",data:=.fields #[.none,.bool false,.bool false,.ref (s.heap.objs.size+3),.ref (s.heap.objs.size+4)]}}):=.of_wp λprog w A R s h=>by obtain⟨hp,g,d,tk,os⟩:=s;obtain⟨t1,t2,t3,h⟩:=h;have sz:=PySem.sub_zip;have T1:tI true (Shared.heap ⟨hp,g,d,tk,os⟩) l1 xs:=t1;have T2:tI true (Shared.heap ⟨hp.push (oB true l1),g,d,tk,os⟩) l2 ys:=qG (b:=true) _ t2;have T3:tI true (Shared.heap ⟨(hp.push (oB true l1)).push (oB true l2),g,d,tk,os⟩) l3 zs:=qG (b:=true) _ (qG (b:=true) _ t3);wp_walk using yB T1,yB T2,yB T3;refine⟨_,rfl,?_⟩;simp only[Ts];exact h
def Ap(z TI TO i1 i2 i3 l1 l2 l3:xM)(i:Nat)(h:Ru):Prop:=IsZip h z TI TO .none/\eA h TI (.ref i1) (.ref i2) (.ref i3)/\(∃a b c,eA h TO a b c)/\w_ true i1 l1 i h/\w_ true i2 l2 i h/\w_ true i3 l3 i h
theorem zi{l1 l2 l3:xM}{xs ys zs:Array Oq}{Q:Oq->Rg->Prop}(t1:tI true s.heap l1 xs)(t2:tI true s.heap l2 ys)(t3:tI true s.heap l3 zs)(h:∀g,Ap (s.heap.objs.size+5) (s.heap.objs.size+3) (s.heap.objs.size+4) s.heap.objs.size (s.heap.objs.size+1) (s.heap.objs.size+2) l1 l2 l3 0 g->(∀c o,s.heap.get? c=some o->g.get? c=some o)->Q (.ref (s.heap.objs.size+5)) {s with heap:=g}):Rr (Ry prog w) A (call (.type "zip") [.ref l1,.ref l2,.ref l3]) Q E s:=by
 refine callType_new F.called_zip (by decide) (sG _ _ _) (sY _ _ _) (λobj=>mn obj _ _ _) F.entry_zip_new (Bl l1 l2 l3 xs ys zs) ⟨t1,t2,t3,?_⟩;have at5:∀(g:Ru) (o:Obj) (a:xM),o.isFreed=false->a=g.objs.size->(g.push o).get? a=some o:=λg o a hf e=>by rw[e];exact SA _ hf
 have g6:=at5 (((((s.heap.push (oB true l1)).push (oB true l2)).push (oB true l3)).push {cls:=.type "tuple",data:=.seq #[.ref s.heap.objs.size,.ref (s.heap.objs.size+1),.ref (s.heap.objs.size+2)]}).push {cls:=.type "tuple",data:=.seq #[.none,.none,.none]}) {cls:=.type "zip",data:=.fields #[.none,.bool false,.bool false,.ref (s.heap.objs.size+3),.ref (s.heap.objs.size+4)]} (s.heap.objs.size+5) rfl (by simp only[Ts]);have g5:=at5 ((((s.heap.push (oB true l1)).push (oB true l2)).push (oB true l3)).push {cls:=.type "tuple",data:=.seq #[.ref s.heap.objs.size,.ref (s.heap.objs.size+1),.ref (s.heap.objs.size+2)]}) {cls:=.type "tuple",data:=.seq #[.none,.none,.none]} (s.heap.objs.size+4) rfl (by simp only[Ts]);have g4:=at5 (((s.heap.push (oB true l1)).push (oB true l2)).push (oB true l3)) {cls:=.type "tuple",data:=.seq #[.ref s.heap.objs.size,.ref (s.heap.objs.size+1),.ref (s.heap.objs.size+2)]} (s.heap.objs.size+3) rfl (by simp only[Ts]);have g3:=at5 ((s.heap.push (oB true l1)).push (oB true l2)) (oB true l3) (s.heap.objs.size+2) rfl (by simp only[Ts]);have g2:=at5 (s.heap.push (oB true l1)) (oB true l2) (s.heap.objs.size+1) rfl (by simp only[Ts]);have g1:=at5 s.heap (oB true l1) s.heap.objs.size rfl rfl;have up:∀{g:Ru}{a:xM}{u:Obj}(o:Obj),g.get? a=some u->(g.push o).get? a=some u:=λo e=>Sf o e;refine⟨⟨_,g6,rfl⟩,h _ ⟨g6,up _ (up _ g4),⟨_,_,_,up _ g5⟩,vq (b:=true) (up _ (up _ (up _ (up _ (up _ g1))))),vq (b:=true) (up _ (up _ (up _ (up _ g2)))),vq (b:=true) (up _ (up _ (up _ g3)))⟩ λc o x=>up _ (up _ (up _ (up _ (up _ (up _ x)))))⟩
end
def GL(K:Rj)(l1 l2 l3:xM):It:=⟨λi H=>∃xs ys zs x y v,tH true K H l1 xs/\tH true K H l2 ys/\tH true K H l3 zs/\xs[i]?=some x/\ys[i]?=some y/\zs[i]?=some v,λi H u H'=>∃p x y v,u=.ref p/\H p=none/\H'=bg H p (.tup [x,y,v])/\∀xs ys zs,tH true K H l1 xs->tH true K H l2 ys->tH true K H l3 zs->xs[i]?=some x/\ys[i]?=some y/\zs[i]?=some v,λi H=>∃xs ys zs,tH true K H l1 xs/\tH true K H l2 ys/\tH true K H l3 zs/\(xs.length<=i\/ys.length<=i\/zs.length<=i)⟩
theorem ze{P:Rw}{w:Ro}{K:Rj}{es:List Rl}{k0:Nat}{pos:Pos}{z TI TO i1 i2 i3:xM}(l1 l2 l3:xM)(nO:TO≠z)(nz:i1≠z/\i2≠z/\i3≠z)(nT:TO≠i1/\TO≠i2/\TO≠i3)(ni:i1≠i2/\i1≠i3/\i2≠i3)(nI:TI≠z/\TI≠TO/\TI≠i1/\TI≠i2/\TI≠i3):Bu P w K (.Tuple es k0 pos) (GL K l1 l2 l3) [z,TI,TO,i1,i2,i3] z (Ap z TI TO i1 i2 i3 l1 l2 l3) where
 mem:=by simp
 obj:=λi h st b hb=>by
  obtain⟨hz,hI,⟨a,c,d,hO⟩,u1,u2,u3⟩:=st;simp only[Su,Ti,or_false]at hb;rcases hb with rfl|rfl|rfl|rfl|rfl|rfl;·exact⟨_,hz,λv z=>by cases z⟩
  ·exact⟨_,hI,λv z=>by cases z⟩
  ·exact⟨_,hO,λv z=>by cases z⟩
  ·exact(km true (prog:=P) (w:=w) _ _).live u1
  ·exact(km true (prog:=P) (w:=w) _ _).live u2
  ·exact(km true (prog:=P) (w:=w) _ _).live u3
 keep:=λi h h' st k=>by obtain⟨hz,hI,⟨a,c,d,hO⟩,u1,u2,u3⟩:=st;exact⟨k _ (by simp) _ hz,k _ (by simp) _ hI,⟨a,c,d,k _ (by simp) _ hO⟩,(km true (prog:=P) (w:=w) _ _).stay u1 λo e=>k _ (by simp) o e,(km true (prog:=P) (w:=w) _ _).stay u2 λo e=>k _ (by simp) o e,(km true (prog:=P) (w:=w) _ _).stay u3 λo e=>k _ (by simp) o e⟩
 item:=by
  intro X hP hw hK hc i pins s σ H E I hf st hg;subst hP hw hK;obtain⟨xs,ys,zs,x,y,v,q1,q2,q3,hx,hy,hv⟩:=hg;obtain⟨hz,hI,⟨a,b,c,hO⟩,u1,u2,u3⟩:=id st;obtain⟨its1,rv1,p1⟩:=vm I q1;obtain⟨its2,rv2,p2⟩:=vm I q2;obtain⟨its3,rv3,p3⟩:=vm I q3;obtain⟨ux,hux,rux⟩:=rv1.get hx;obtain⟨uy,huy,ruy⟩:=rv2.get hy;obtain⟨uv,huv,ruv⟩:=rv3.get hv;have fz:=hf z (by simp);have fO:=hf TO (by simp);have f1:=hf i1 (by simp);have f2:=hf i2 (by simp);have f3:=hf i3 (by simp);have D:uM z TI TO i1 i2 i3 l1 l2 l3:=⟨nO,nz,nT,ni,λa ha=>by have q:∃us,tH true X.K H a us:=ha.elim (λe=>⟨_,e▸q1⟩) λh=>h.elim (λe=>⟨_,e▸q2⟩) λe=>⟨_,e▸q3⟩;obtain⟨us,q⟩:=q;exact⟨Eg I fz q,Eg I fO q,Eg I f1 q,Eg I f2 q,Eg I f3 q⟩⟩;have hT:s.TypeIs (.ref z) "zip":=⟨_,hz,rfl⟩;have lt:∀b∈[z,TI,TO,i1,i2,i3],b<s.heap.objs.size:=λb hb=>by
   simp only[Su,Ti,or_false]at hb;rcases hb with rfl|rfl|rfl|rfl|rfl|rfl;·exact RM hz
   ·exact RM hI
   ·exact RM hO
   ·obtain⟨o,e,_⟩:=(km true (prog:=X.prog) (w:=X.w) _ _).live u1;exact RM e
   ·obtain⟨o,e,_⟩:=(km true (prog:=X.prog) (w:=X.w) _ _).live u2;exact RM e
   ·obtain⟨o,e,_⟩:=(km true (prog:=X.prog) (w:=X.w) _ _).live u3;exact RM e
  unfold pyNext;refine Rq (wpAny_attempt (UJ (name:=Rm "__next__") hT VJ (Ux VJ hT F.entry_zip_next ?_ (F.args_zip_next_1 _))));refine Ed (xs:=its1.toArray) (ys:=its2.toArray) (zs:=its3.toArray) D hz hI hO u1 u2 u3 p1 p2 p3 (by simpa using hux) (by simpa using huy) (by simpa using huv) λg gz gO g1 g2 g3 gT gs gk=>RG ?_;refine⟨_,rfl,wpAny_letOwnedTupleGo_zip gz λg' gz' ge=>?_⟩;have hT:H s.heap.objs.size=none:=I.hok.fresh (RL _);have vv:aW [x,y,v] [ux,uy,uv]:=.cons rux (.cons ruy (.cons ruv .nil));have I1:aI X pins σ (bg H s.heap.objs.size (.tup [x,y,v])) {s with heap:=s.heap.push {cls:=.type "tuple",data:=.seq #[ux,uy,uv]},toks:=s.toks}:=I.laid (t':=s.toks) (λb u e=>Sf _ e) (RL _) ⟨(by show 3<=RH;decide),[ux,uy,uv],vv,sQ.new _ _⟩;have hf1:∀b∈[z,TI,TO,i1,i2,i3],ky X pins (bg H s.heap.objs.size (.tup [x,y,v])) b:=λb hb=>by obtain⟨f0,fr⟩:=hf b hb;exact⟨by rw[av (SJ (lt b hb))];exact f0,fr⟩
  have I2:aI X pins σ (bg H s.heap.objs.size (.tup [x,y,v])) {s with heap:=g',toks:=s.toks}:=by
   refine I1.turnedL (t':=s.toks) hf1 λb o nb e=>?_;have nb':b≠z/\b≠TI/\b≠TO/\b≠i1/\b≠i2/\b≠i3:=by simpa using nb
   refine ge.extBut _ _ nb'.1 ?_;rcases Heap.get?_push_cases e with⟨rfl,rfl⟩|e;·exact gT
   ·exact gk b o nb'.1 nb'.2.2.1 nb'.2.2.2.1 nb'.2.2.2.2.1 nb'.2.2.2.2.2 e
  refine⟨.ref s.heap.objs.size,_,I2,rfl,⟨_,x,y,v,rfl,hT,rfl,λxs' ys' zs' w1 w2 w3=>?_⟩,⟨gz',ge.extBut _ _ nI.1 (gk _ _ nI.1 nI.2.1 nI.2.2.1 nI.2.2.2.1 nI.2.2.2.2 hI),⟨ux,uy,uv,ge.extBut _ _ nO gO⟩,(km true (prog:=X.prog) (w:=X.w) _ _).stay g1 λo e=>ge.extBut _ _ nz.1 e,(km true (prog:=X.prog) (w:=X.w) _ _).stay g2 λo e=>ge.extBut _ _ nz.2.1 e,(km true (prog:=X.prog) (w:=X.w) _ _).stay g3 λo e=>ge.extBut _ _ nz.2.2 e⟩,λb hb=>(hf1 b hb).1⟩;rw[Ib I w1 q1,Ib I w2 q2,Ib I w3 q3];exact⟨hx,hy,hv⟩
 done:=by
  intro X hP hw hK hc i pins s σ H E I hf st hg;subst hP hw hK;obtain⟨xs,ys,zs,q1,q2,q3,hn⟩:=hg;obtain⟨hz,hI,⟨a,b,c,hO⟩,u1,u2,u3⟩:=id st;obtain⟨its1,rv1,p1⟩:=vm I q1;obtain⟨its2,rv2,p2⟩:=vm I q2;obtain⟨its3,rv3,p3⟩:=vm I q3;have fz:=hf z (by simp);have fO:=hf TO (by simp);have f1:=hf i1 (by simp);have f2:=hf i2 (by simp);have f3:=hf i3 (by simp);have D:uM z TI TO i1 i2 i3 l1 l2 l3:=⟨nO,nz,nT,ni,λa ha=>by have q:∃us,tH true X.K H a us:=ha.elim (λe=>⟨_,e▸q1⟩) λh=>h.elim (λe=>⟨_,e▸q2⟩) λe=>⟨_,e▸q3⟩;obtain⟨us,q⟩:=q;exact⟨Eg I fz q,Eg I fO q,Eg I f1 q,Eg I f2 q,Eg I f3 q⟩⟩;have e1:=rv1.length;have e2:=rv2.length;have e3:=rv3.length;have hT:s.TypeIs (.ref z) "zip":=⟨_,hz,rfl⟩;have hn':its1.toArray[i]?=none\/its2.toArray[i]?=none\/its3.toArray[i]?=none:=by
   rcases hn with hn|hn|hn;·exact .inl (by simp;lia)
   ·exact .inr (.inl (by simp;lia))
   ·exact .inr (.inr (by simp;lia))
  unfold pyNext;refine Rq (wpAny_attempt (UJ (name:=Rm "__next__") hT VJ (Ux VJ hT F.entry_zip_next (Bk (I.ok.hd hc) D hz hI hO u1 u2 u3 p1 p2 p3 hn' λg e gk he=>?_) (F.args_zip_next_1 _))));obtain⟨o,ho,hcl⟩:=he;refine Rq (wpAny_isInstance (T:="StopIteration") (b:=true) ⟨o,ho,hcl⟩ isSubtype_stop ?_);refine RG ⟨rfl,I.turnedL (t':=s.toks) hf λb o nb e=>?_⟩;have nb':b≠z/\b≠TI/\b≠TO/\b≠i1/\b≠i2/\b≠i3:=by simpa using nb
  exact gk b o nb'.1 nb'.2.2.1 nb'.2.2.2.1 nb'.2.2.2.2.1 nb'.2.2.2.2.2 e
 self:=λA i s Q E st h=>wpAny_pyIter_zip st.1 h
def H_(K:Rj)(ta:TA):TI:=λσ H R=>ta σ H λvs H1=>∃a b c,vs=[.ref a,.ref b,.ref c]/\(∃xs,tH true K H1 a xs)/\(∃ys,tH true K H1 b ys)/\(∃zs,tH true K H1 c zs)/\R (GL K a b c) H1
theorem C1{X:Cx}{K:Rj}{es:List Rl}{k0:Nat}{tp:Pos}{a b c:Rl}{ta:TA}{p pos:Pos}(hK:X.K=K)(hg:Gl X "zip")(hm:X.mg "zip"=none)(ha:PA X [a,b,c] ta)(hs:RB [a,b,c] X.env=[(false,RC a X.env),(false,RC b X.env),(false,RC c X.env)])(hs2:RB [b,c] X.env=[(false,RC b X.env),(false,RC c X.env)]):PI X (.Tuple es k0 tp) (.Call (.Name "zip" p) [a,b,c] [] pos) (H_ K ta):=by intro pins s σ H R I h;subst hK;refine Call_ (rd I hg hm L2.boot_zip (VR (cZ (ha pos pins s σ H _ I h) λus s1⟨vs,H1,I1,r1,q1⟩=>?_) (by rw[hs,hs2]) (by rw[hs2];rfl)));obtain⟨a,b,c,e,⟨xs,qx⟩,⟨ys,qy⟩,⟨zs,qz⟩,q⟩:=q1;subst e;cases r1 with|cons r rr=>cases rr with|cons r' rr=>cases rr with|cons r'' rr=>
 cases rr;cases r;cases r';cases r'';obtain⟨i1,v1,p1⟩:=vm I1 qx;obtain⟨i2,v2,p2⟩:=vm I1 qy;obtain⟨i3,v3,p3⟩:=vm I1 qz;refine zi p1 p2 p3 λg st hk=>wpAny_pyIter_zip st.1 ?_;have I2:aI X pins σ H1 {s1 with heap:=g,toks:=s1.toks}:=I1.kept (t':=s1.toks) λb o e=>hk b o e;have nn:∀i j:Nat,i≠j->(s1.heap.objs.size+i:Nat)≠s1.heap.objs.size+j:=λi j h=>by lia
 refine⟨s1.heap.objs.size+5,[s1.heap.objs.size+5,s1.heap.objs.size+3,s1.heap.objs.size+4,s1.heap.objs.size,s1.heap.objs.size+1,s1.heap.objs.size+2],_,_,H1,rfl,I2,ze a b c (nn 4 5 (by decide)) ⟨nn 0 5 (by decide),nn 1 5 (by decide),nn 2 5 (by decide)⟩ ⟨nn 4 0 (by decide),nn 4 1 (by decide),nn 4 2 (by decide)⟩ ⟨nn 0 1 (by decide),nn 0 2 (by decide),nn 1 2 (by decide)⟩ ⟨nn 3 5 (by decide),nn 3 4 (by decide),nn 3 0 (by decide),nn 3 1 (by decide),nn 3 2 (by decide)⟩,st,λc hc=>?_,q⟩;have le:s1.heap.objs.size<=c:=by
  simp only[Su,Ti,or_false]at hc;rcases hc with rfl|rfl|rfl|rfl|rfl|rfl;·exact Vg _ 5
  ·exact Vg _ 3
  ·exact Vg _ 4
  ·exact RL _
  ·exact Vg _ 1
  ·exact Vg _ 2
 exact I1.fpOk (H':=H1) le (I1.hok.fresh le)
section
variable{K:Rj}{C:xM}{F H F' H' F1 H1:Hp}{σ:L2.St}{e:En}{ob:gc}{fp:Lc->List xM}{i:Nat}{ts:List Nw}{l:xM}
theorem aP.listPut(R1:aP K C F1 H1 σ e ob fp)(N1:HB K C F1 H1 σ e (Fo ob fp) ts)(fl:F1 l=none)(hl:H1 l=some (.lst (ts.map λt=>t.2.1)))(nl:¬Fo ob fp l)(nol:¬bi σ e H1 l)(nlt:¬qc ts l)(hlt:i<e.length):bv [i] σ F1 H1 e (λa=>Fo ob fp a\/a=l\/qc ts a) (σ.set i (some (V.ref l))) (bg F1 l (.lst (ts.map λt=>t.2.1))) H1 (e.set i none) (Fo (sZ i 0 (ts.map (·.1))++j5 i ob) (vE i ts fp))/\aP K C (bg F1 l (.lst (ts.map λt=>t.2.1))) H1 (σ.set i (some (V.ref l))) (e.set i none) (sZ i 0 (ts.map (·.1))++j5 i ob) (vE i ts fp):=by
 have sF:ao F1 (bg F1 l (.lst (ts.map λt=>t.2.1))):=ao.new fl;have sm:ao (bg F1 l (.lst (ts.map λt=>t.2.1))) H1:=λa u z=>by
  by_cases w:a=l;·subst w;rw[au]at z;cases z;exact hl
  ·rw[av w]at z;exact R1.rel.sm a u z
 have ne:∀{a},a≠l->(bg F1 l (.lst (ts.map λt=>t.2.1))) a=F1 a:=λh=>av h;obtain⟨Rk,ok2⟩:=R1.rel.keep sF sm (λa h=>by have w:a≠l:=λw=>nol (w▸h);obtain⟨j,hj⟩:=h;rw[ne w];exact(R1.rel.fpAt hj).1) (λa o _ q=>q);have R3:=(Rk.drop i).poke (some (V.ref l));have o3:∀a,bi (σ.set i (some (V.ref l))) (e.set i none) H1 a->bi σ e H1 a:=λa⟨j,z⟩=>bi.drop ⟨j,eE.mp z⟩;have at2:∀t∈ts,fm K C (bg F1 l (.lst (ts.map λt=>t.2.1))) H1 t.1 t.2.1 t.2.2:=λt ht=>(N1.at_ t ht).mono sF (λa ha=>by rw[ne (λw=>nlt ⟨t,ht,w▸ha⟩)];exact((N1.at_ t ht).at a ha).1) λ_ _=>rfl;have mo:∀{p},p∈j5 i ob->p∈ob/\p.1.slot≠i:=fun{p}h=>by obtain⟨h1,h2⟩:=Tj.mp h;exact⟨h1,by simpa using h2⟩
 have nt:∀{p},p∈sZ i 0 (ts.map (·.1))->∃(j:Nat) (t:Nw),p.1=.it i j/\ts[j]?=some t/\p.2=t.1/\vE i ts fp p.1=t.2.2:=fun{p}h=>by obtain⟨j,h1,h2⟩:=rA h;rw[Ub]at h1;rw[RY]at h2;obtain⟨t,h3,h4⟩:=Q7 h2;refine⟨j,t,h1,h3,h4.symm,?_⟩;rw[h1];refine(if_pos (show(Lc.it i j).slot=i from rfl)).trans ?_;show((ts[j]?).map λt=>t.2.2).getD []=_;rw[h3];rfl
 have fo:∀{p:Lc×Ob},p.1.slot≠i->vE i ts fp p.1=fp p.1:=λh=>if_neg h;have sub:∀a,Fo (sZ i 0 (ts.map (·.1))++j5 i ob) (vE i ts fp) a->Fo ob fp a\/qc ts a:=by
  rintro a⟨p,hp,ha⟩;rcases Q9 hp with hp|hp;·obtain⟨j,t,g1,g2,g3,g4⟩:=nt hp;rw[g4]at ha;exact .inr ⟨t,Rf g2,ha⟩
  ·obtain⟨g1,g2⟩:=mo hp;rw[fo g2]at ha;exact .inl ⟨p,g1,ha⟩
 refine⟨⟨sF,λ_ h=>h,λa vs h1 h2 _ h4=>by rw[ne (λw=>h4 (.inr (.inl w)))];exact h1,λa vs h=>⟨vs,h⟩,λa u h _ _=>h,λa z=>?_,λj n=>RI (λz=>n (by simp[z])),λa m h1 h2 _ h4=>by rw[ne (λw=>h4 (.inr (.inl w)))];exact h1⟩,⟨R3,λp hp=>?_,λp hp s hs hne a ha hb=>?_,λa ha z=>?_⟩⟩
 ·rcases z with z|z;·exact .inl (.inl (o3 a z))
  ·exact .inl (.inr ((sub a z).imp_right .inr))
 ·rcases Q9 hp with hp|hp
  ·obtain⟨j,t,g1,g2,g3,g4⟩:=nt hp;refine⟨by rw[g1];exact Sj hlt,t.2.1,?_,?_⟩;·rw[g1];exact⟨l,_,Sj (by rw[R1.rel.len];exact hlt),au,by rw[RY,g2];rfl⟩
   ·rw[g3,g4];exact at2 t (Rf g2)
  ·obtain⟨g1,g2⟩:=mo hp;obtain⟨c1,u,c2,c3⟩:=R1.obs p g1;exact⟨by rw[RI (RJ g2)];exact c1,u,c2.mono sF (RI (RJ g2)),by rw[fo g2];exact c3.mono sF (λa ha=>by rw[ne (λw=>nl ⟨p,g1,w▸ha⟩)];exact(c3.at a ha).1) λ_ _=>rfl⟩
 ·rcases Q9 hp with hp|hp
  ·obtain⟨j,t,g1,g2,g3,g4⟩:=nt hp;rw[g4]at ha;rcases Q9 hs with hs|hs
   ·obtain⟨k,t',d1,d2,d3,d4⟩:=nt hs;rw[d4]at hb;have pw:=Wi.mp N1.dis;obtain⟨w1,w2⟩:=Q8 g2;obtain⟨v1,v2⟩:=Q8 d2;rcases Nat.lt_trichotomy j k with c|c|c;·have:=pw j k w1 v1 c;rw[w2,v2]at this;exact this a ha hb
    ·exact hne (by rw[g1,d1,c])
    ·have:=pw k j v1 w1 c;rw[w2,v2]at this;exact this a hb ha
   ·obtain⟨d1,d2⟩:=mo hs;rw[fo d2]at hb;exact(N1.no a ⟨t,Rf g2,ha⟩).1 ⟨s,d1,hb⟩
  ·obtain⟨g1,g2⟩:=mo hp;rw[fo g2]at ha;rcases Q9 hs with hs|hs;·obtain⟨k,t',d1,d2,d3,d4⟩:=nt hs;rw[d4]at hb;exact(N1.no a ⟨t',Rf d2,hb⟩).1 ⟨p,g1,ha⟩
   ·obtain⟨d1,d2⟩:=mo hs;rw[fo d2]at hb;exact R1.dis p g1 s d1 hne a ha hb
 ·rcases sub a ha with w|w;·exact R1.own a w (o3 a z)
  ·exact(N1.no a w).2 (o3 a z)
end
def yt(fn:XN):List Rh->Option (List Ob)|[]=>some []|d::r=>(fn ([some (.d d)],[])).bind λp=>if p.2.2.isEmpty=true/\vc p.2.1=true/\p.2.1.length=1 then(yt fn r).map (p.1::·) else none
def xI(i:Nat)(fi:FI)(fn:XN):XS:=λx=>(fi x.1).bind λp=>if okO x.2 p.2.2=true/\i<p.2.2.length/\p.1.length<=1000 then(yt fn p.1).map λos=>.nx (p.2.2.set i none,sZ i 0 os++j5 i x.2) else none
structure tG (K:Rj) (C:xM) (fn:XN) (σ:L2.St) (F0 H0:Hp) (e0:En) (x:EX) (fp:Lc->List xM) (l:xM) (os:List Ob) (aB:List Rh) (σi:L2.St) (H:Hp) (F:Hp) (ts:List Nw) (ei:En):Prop where
 R:aP K C F H σ x.1 x.2 fp
 Y:bv [] σ F0 H0 e0 (Fo x.2 fp) σ F H x.1 λa=>Fo x.2 fp a\/a=l\/qc ts a
 N:HB K C F H σ x.1 (Fo x.2 fp) ts
 fl:F l=none
 hl:H l=some (.lst (ts.map λt=>t.2.1))nl:¬Fo x.2 fp l
 nol:¬bi σ x.1 H l
 nlt:¬qc ts l
 eq:∃os',yt fn aB=some os'/\os=ts.map (·.1)++os'
 le:ei.length=1
 db:vc ei=true
 ri:bf K F H σi ei
section
variable{X:Cx}{K:Rj}{C:xM}
theorem tG.step{fn:XN}{σ σi σ2:L2.St}{F0 H0 F H F' H' F3 H3:Hp}{e0 ei:En}{x:EX}{fp fp3:Lc->List xM}{l:xM}{os:List Ob}{d:Rh}{aB:List Rh}{ts:List Nw}{o:Ob}{x3:EX}{v:V}{fs:List xM}(I:tG K C fn σ F0 H0 e0 x fp l os (d::aB) σi H F ts ei)(sH:ao H H')(sF':ao F F')(sm':ao F' H')(fz:∀a,F a=none->H a≠none->F' a=none)(h1:fn ([some (.d d)],[])=some (o,x3))(he:x3.2.isEmpty=true/\vc x3.1=true/\x3.1.length=1)(X3:bv [] σ2 F' H' [some (.d d)] (Fo [] λ_=>[]) σ2 F3 H3 x3.1 (λa=>Fo x3.2 fp3 a\/a∈fs))(R3:aP K C F3 H3 σ2 x3.1 x3.2 fp3)(A3:fm K C F3 H3 o v fs):H3 l=some (.lst (ts.map λt=>t.2.1))/\tG K C fn σ F0 H0 e0 x fp l os aB σ2 (bg H3 l (.lst ((ts.map λt=>t.2.1)++[v]))) F3 (ts++[(o,v,fs)]) x3.1:=by
 have no0:∀a,¬Fo ([]:gc) (λ_=>[]) a:=λa⟨p,hp,_⟩=>by cases hp
 have nO2:∀a,¬bi σ2 [some (Sv.d d)] H' a:=λa=>cU rfl;obtain⟨R',X'⟩:=I.R.rel.step sH sF' sm' fz;obtain⟨Y2,R2X⟩:=I.R.pure0 X' R';have tA:∀a,(a=l\/qc ts a)->¬bi σ x.1 H a/\¬Fo x.2 fp a/\H a≠none:=λa h=>by
  rcases h with rfl|h;·exact⟨I.nol,I.nl,by rw[I.hl];simp⟩
  ·refine⟨(I.N.no a h).2,(I.N.no a h).1,?_⟩;obtain⟨t,ht,ha⟩:=h;obtain⟨_,u,g,_⟩:=(I.N.at_ t ht).at a ha;rw[g];simp
 have Y2':=Y2.addS (T:=λa=>a=l\/qc ts a) tA;have ow2:∀a,(a=l\/qc ts a)->¬bi σ x.1 H' a:=λa h z=>by
  rcases Y2.own a (.inl z) with w|w;·exact w.elim (tA a h).1 (tA a h).2.1
  ·exact(tA a h).2.2 w
 have at2:∀t∈ts,fm K C F' H' t.1 t.2.1 t.2.2:=λt ht=>(I.N.at_ t ht).mono sF' (λa ha=>by obtain⟨g1,u,g2,_⟩:=(I.N.at_ t ht).at a ha;exact fz a g1 (by rw[g2];simp)) λa ha=>by obtain⟨g1,u,g2,_⟩:=(I.N.at_ t ht).at a ha;rw[g2];exact sH _ _ g2
 have hl2:H' l=some (.lst (ts.map λt=>t.2.1)):=sH _ _ I.hl;have fl2:F' l=none:=fz l I.fl (by rw[I.hl];simp);have tmp3:∀a u,H' a=some u->H3 a=some u:=λa u z=>X3.tmp a u z (nO2 a) (no0 a);have new3:∀a,a∈fs->H' a=none:=λa ha=>(X3.own a (.inr (.inr ha))).elim (λw=>w.elim (λw=>absurd w (nO2 a)) λw=>absurd w (no0 a)) id;obtain⟨Y3,R4,N4⟩:=R2X.later (T:=λa=>a∈fs) (F':=F3) (H':=H3) X3.sf R3.rel.sm X3.dom tmp3 (λa g1⟨u,g2,g3⟩=>by
  by_cases k:B9 u=true;·exact X3.fd a ⟨u,k⟩ g1 g2 (nO2 a) (no0 a)
  ·rcases g3 with g3|g3;·cases u with|lst us=>exact X3.fr a us g1 g2 (nO2 a) (no0 a)|ins c d fs=>exact absurd rfl k|_=>cases g3
   ·exact absurd g3 k) new3;have Y3':=Y3.addS (T:=λa=>a=l\/qc ts a) λa h=>⟨ow2 a h,(tA a h).2.1,λz=>(tA a h).2.2 (by cases q:H a with|none=>rfl|some u=>rw[sH _ _ q]at z;cases z)⟩;have hl3:H3 l=some (.lst (ts.map λt=>t.2.1)):=tmp3 _ _ hl2;have fl3:F3 l=none:=X3.fr l _ fl2 hl2 (nO2 l) (no0 l);have ow3:∀a,(a=l\/qc ts a)->¬bi σ x.1 H3 a:=λa h z=>by
  rcases Y3.own a (.inl z) with w|w;·exact w.elim (ow2 a h) (tA a h).2.1
  ·rcases h with rfl|h;·rw[hl2]at w;cases w
   ·obtain⟨t,ht,ha⟩:=h;obtain⟨_,u,g,_⟩:=(at2 t ht).at a ha;rw[g]at w;cases w
 have at3:∀t∈ts,fm K C F3 H3 t.1 t.2.1 t.2.2:=λt ht=>(at2 t ht).keep X3 λa ha=>⟨nO2 a,no0 a⟩;have lfs:¬l∈fs:=λz=>by rw[new3 l z]at hl2;cases hl2
 have nfs:∀a,qc ts a->a∉fs:=λa⟨t,ht,ha⟩z=>by obtain⟨_,u,g,_⟩:=(at2 t ht).at a ha;rw[new3 a z]at g;cases g
 let H4:Hp:=bg H3 l (.lst ((ts.map λt=>t.2.1)++[v]));have h4n:∀a,a≠l->H4 a=H3 a:=λa h=>av h;have sm4:ao F3 H4:=λa u z=>by
  have:a≠l:=λw=>by rw[w,fl3]at z;cases z
  rw[h4n a this];exact R4.rel.sm a u z
 have cn:∀a,qc (ts++[(o,v,fs)]) a↔qc ts a\/a∈fs:=λa=>by
  unfold qc;constructor
  ·rintro⟨t,ht,ha⟩;rcases Q9 ht with h|h;·exact .inl ⟨t,h,ha⟩
   ·rw[RW]at h;subst h;exact .inr ha
  ·rintro(⟨t,ht,ha⟩|ha);·exact⟨t,SH.mpr (.inl ht),ha⟩
   ·exact⟨_,SH.mpr (.inr (RW.mpr rfl)),ha⟩
 obtain⟨R5,o5⟩:=R4.rel.keep (ao.refl F3) sm4 (λa h=>by obtain⟨j,hj⟩:=h;exact(R4.rel.fpAt hj).1) (λa u h q=>by have:a≠l:=λw=>ow3 l (.inl rfl) (w▸h);rw[h4n a this];exact q);have RX:aP K C F3 H4 σ x.1 x.2 fp:=⟨R5,λp hp=>by obtain⟨c1,u,c2,c3⟩:=R4.obs p hp;exact⟨c1,u,c2,c3.mono (ao.refl _) (λa ha=>(c3.at a ha).1) λa ha=>h4n a λw=>I.nl ⟨p,hp,w▸ha⟩⟩,R4.dis,λa ha z=>R4.own a ha ((o5 a).mp z)⟩;have atm:∀t∈ts++[(o,v,fs)],fm K C F3 H4 t.1 t.2.1 t.2.2:=λt ht=>by
  have q:fm K C F3 H3 t.1 t.2.1 t.2.2:=by
   rcases Q9 ht with h|h;·exact at3 t h
   ·rw[RW]at h;subst h;exact A3
  refine q.mono (ao.refl _) (λa ha=>(q.at a ha).1) λa ha=>h4n a λw=>?_;rcases Q9 ht with h|h;·exact I.nlt ⟨t,h,w▸ha⟩
  ·rw[RW]at h;subst h;exact lfs (w▸ha)
 have Y4:bv [] σ F3 H3 x.1 (λa=>(Fo x.2 fp a\/a∈fs)\/(a=l\/qc ts a)) σ F3 H4 x.1 λa=>Fo x.2 fp a\/a=l\/qc (ts++[(o,v,fs)]) a:=⟨ao.refl _,λa z=>by
  by_cases w:a=l;·rw[w]at z;have:H4 l=some _:=au;rw[this]at z;cases z
  ·rwa[h4n a w]at z,λ_ _ h _ _ _=>h,λa us h=>by
  by_cases w:a=l;·exact⟨_,by rw[w];exact au⟩
  ·exact⟨us,by rw[h4n a w];exact h⟩,λa u h _ n=>by rw[h4n a (λw=>n (.inr (.inl w)))];exact h,λa z=>by
  rcases z with z|z|z|z;·exact .inl (.inl ((o5 a).mp z))
  ·exact .inl (.inr (.inl (.inl z)))
  ·exact .inl (.inr (.inr (.inl z)))
  ·rcases(cn a).mp z with w|w;·exact .inl (.inr (.inr (.inr w)))
   ·exact .inl (.inr (.inl (.inr w))),λ_ _=>rfl,λ_ _ h _ _ _=>h⟩;obtain⟨os',q1,q2⟩:=I.eq;unfold yt at q1;rw[h1,RK,if_pos he]at q1;obtain⟨os2,q3,q4⟩:=Q7 q1;refine⟨hl3,⟨RX,((I.Y.trans Y2').trans Y3').trans Y4,⟨atm,λa ha=>?_,?_⟩,fl3,?_,I.nl,λz=>ow3 l (.inl rfl) ((o5 l).mp z),λz=>?_,⟨os2,q3,?_⟩,he.2.2,he.2.1,?_⟩⟩
 ·rcases(cn a).mp ha with w|w;·exact⟨(I.N.no a w).1,λz=>ow3 a (.inr w) ((o5 a).mp z)⟩
  ·exact⟨(N4 a w).1,λz=>(N4 a w).2 ((o5 a).mp z)⟩
 ·refine List.pairwise_append.mpr ⟨I.N.dis,List.pairwise_singleton _ _,λt ht s hs a ha hb=>?_⟩;rw[RW]at hs;subst hs;exact nfs a ⟨t,ht,ha⟩ hb
 ·rw[List.map_append];exact au
 ·rcases(cn l).mp z with w|w;·exact I.nlt w
  ·exact lfs w
 ·rw[q2,<-q4,List.map_append,List.append_assoc];rfl
 ·have dd:∀(j:Nat) (s:Sv),x3.1[j]?=some (some s)->∃d,s=.d d:=λj s q=>by have:=Sk.mp he.2.1 _ (Rf q);cases s with|d d=>exact⟨d,rfl⟩|l xs=>cases this|n xs=>cases this
  exact Hl R3.rel he.2.1 (ao.refl _) sm4
theorem Dm{ix:Nat}{nm y:Str}{posn poss:Pos}{elt iter tg:Rl}{scope:RU}{pos:Pos}{fi:FI}{fn:XN}(hc:X.calm=true)(hi:PI X tg iter (fI K fi))(hg:∀C' s0 H0 fp,PG (aY X scope [] [y] C' s0 H0 fp) tg (fG K (am 0) [0]))(he:∀C' s0 H0 fp,PE (aY X scope [] [y] C' s0 H0 fp) elt (Ke K C fn))(hk:scope.kind=.function)(hch:Ey X.env.scope scope X.N [] [0]=true)(hNd:X.N.Nodup)(hix:X.N[ix]?=some nm)(hlc:X.env.scope.names.lookup nm=some .local)(hsw:Tx (.ListComp elt [⟨tg,iter,[],0⟩] scope pos) (some (.Name nm posn)) poss.line X.env=pure true)(hs:∀x,Uh iter X.env x=pure x):PS X (.Assign [.Name nm posn] (.ListComp elt [⟨tg,iter,[],0⟩] scope pos) poss) (qe K C (xI ix fi fn) [ix]):=by
 obtain⟨c0,c1,c2,c3,c4,c5,c6⟩:=zA hch;refine(xD X.env.scope X.N [] [y] hc rfl rfl hi hg (λ_ _ _ _=>zQ) he hk c0 c1 c2 c3 c4 hNd hix hlc hsw hs).mono λD σ H h=>?_;obtain⟨F,x,fp,fl,R,hf,q⟩:=h;unfold xI at hf;obtain⟨⟨items,own,e1⟩,hI,hf⟩:=Q6 hf;dsimp only at hf;split at hf;case isFalse=>cases hf
 case isTrue hcnd=>
 obtain⟨hok,hlt,hle⟩:=hcnd;obtain⟨os,hos,hf⟩:=Q7 hf;cases hf;refine⟨⟨F,x.1,items,own,e1,R.rel,hI,λJ F1 H1 X1 R1 kp ok l hl=>?_⟩⟩;obtain⟨Y1,R1X⟩:=R.pure X1 R1 hok;have fl1:F1 l=none:=R1.freeF hl;have sm1:ao F1 (bg H1 l (.lst [])):=λa u z=>by rw[av (λw=>by rw[w,fl1]at z;cases z)];exact R1.sm a u z
 obtain⟨Y2,R2X,N2⟩:=R1X.later (T:=λa=>a=l) (F':=F1) (H':=bg H1 l (.lst [])) (ao.refl _) sm1 (λa z=>by
  by_cases w:a=l;·rw[w];exact hl
  ·rwa[av w]at z) (λa u z=>by rw[av (λw=>by rw[w,hl]at z;cases z)];exact z) (λa z _=>z) λa ha=>by rw[ha];exact hl
 have nw0:∀a,¬qc [] a:=λa⟨t,h,_⟩=>by cases h
 have I0:tG K C fn σ F H x.1 (e1,x.2) fp l os items (jD [] 1 σ) (bg H1 l (.lst [])) F1 [] [none]:=⟨R2X,(Y1.trans ⟨Y2.sf,Y2.dom,Y2.fr,Y2.lst,Y2.tmp,λa z=>Y2.own a (z.imp_right λw=>w.imp_right λw=>w.elim id λw=>absurd w (nw0 a)),Y2.wr,Y2.fd⟩),⟨λt h=>(by cases h),λa h=>absurd h (nw0 a),.nil⟩,fl1,au,(N2 l rfl).1,(N2 l rfl).2,nw0 l,⟨os,hos,rfl⟩,rfl,rfl,⟨sm1,rfl,λj d z=>(by match j,z with|0,z=>cases z|j+1,z=>simp at z),λj d z=>(by match j,z with|0,z=>cases z|j+1,z=>simp at z),λj d z=>(by match j,z with|0,z=>cases z|j+1,z=>simp at z),λi j a hi _=>absurd ⟨i,hi⟩ (cU (e:=[none]) rfl)⟩⟩;refine⟨λk m σi Hi=>m=items.length-k/\k<=items.length/\∃F2 ts ei,ao F1 F2/\ts.length=k/\tG K C fn σ F H x.1 (e1,x.2) fp l os (items.drop k) σi Hi F2 ts ei,⟨items.length,by simp,Tq _,F1,[],[none],ao.refl _,rfl,I0⟩,?_⟩;rintro k m σi Hi⟨rfl,hk,F2,ts,ei,sF,hts,I⟩;obtain⟨go,stop,yld⟩:=ok F2 Hi sF I.R.rel.sm (I.R.rel.held kp);by_cases hlk:k<items.length
 ·have hd:items.drop k=items[k]::items.drop (k+1):=Vb hlk;rw[hd]at I;refine .inr ⟨go k hlk,λσ2 H2=>∃F2 ts ei,ao F1 F2/\ts.length=k+1/\tG K C fn σ F H x.1 (e1,x.2) fp l os (items.drop (k+1)) σ2 H2 F2 ts ei,λσ2 H2 r=>⟨items.length-(k+1),by lia,rfl,hlk,r⟩,λv H' hy=>?_⟩;obtain⟨F',sH,sF',sm',fz,hx⟩:=yld k items[k] v H' (SN hlk) hy;obtain⟨Ri',_⟩:=I.ri.step sH sF' sm' fz;have hei:ei.set 0 (some (.d items[k]))=[some (.d items[k])]:=by match ei,I.le with|[a],_=>rfl
  refine⟨F',ei,items[k],_,Ri',hx,rfl,λσ2 x2 R2=>?_⟩;rw[hei]at x2 R2;show(if true=true then Ke K C fn σ2 H' _ else _);rw[if_pos rfl];obtain⟨os',q1,q2⟩:=I.eq;have q1':=q1;unfold yt at q1';obtain⟨⟨o,x3⟩,h1,q1'⟩:=Q6 q1';dsimp only at q1';split at q1';case isFalse=>cases q1'
  case isTrue he3=>
  have no0:∀a,¬Fo ([]:gc) (λ_=>[]) a:=λa⟨p,hp,_⟩=>by cases hp
  refine⟨F',([some (.d items[k])],[]),λ_=>[],o,x3,⟨R2,λp hp=>(by cases hp),λp hp=>(by cases hp),λa ha=>absurd ha (no0 a)⟩,h1,λF3 H3 v3 fs fp3 X3 R3 A3 N3=>?_⟩;obtain⟨hl3,I3⟩:=I.step sH sF' sm' fz h1 he3 X3 R3 A3;have hz:(ts.map λt=>t.2.1).length<RH:=by
   have:1000<=RH:=by decide
   rw[RQ,hts];lia
  exact⟨_,hl3,hz,F3,_,_,sF.trans (sF'.trans X3.sf),by rw[UI,hts];rfl,I3⟩
 ·have hd:items.drop k=[]:=Vc (by lia);rw[hd]at I;obtain⟨os',q1,q2⟩:=I.eq;cases q1;rw[SQ]at q2;refine .inl ⟨stop k (by lia),?_⟩;show D.nx (σ.set ix (some (V.ref l))) Hi;obtain⟨Y5,R5⟩:=I.R.listPut (i:=ix) I.N I.fl I.hl I.nl I.nol I.nlt hlt;rw[<-q2]at Y5 R5;exact q _ Hi _ _ ((I.Y.mono (λj h=>by cases h)).trans Y5) R5
def oF(c1 c3:Lc)(j1 j2 j3:Nat)(ob:gc):gc:=ob.filter λp=>decide (p.1≠c1/\p.1≠c3/\p.1.slot≠j1/\p.1.slot≠j2/\p.1.slot≠j3)
def lA(j1 j2 j3:Nat)(d:Rh)(e:En):En:=((e.set j1 none).set j2 (some (.d d))).set j3 none
def p6(c1 c3:Lc)(j1 j3:Nat)(fp:Lc->List xM):Lc->List xM:=λc=>if c=.s j1 then fp c1 else if c=.s j3 then fp c3 else fp c
theorem aP.take2{F H:Hp}{σ:L2.St}{e:En}{ob:gc}{fp:Lc->List xM}{c1 c3:Lc}{o1 o3:Ob}{j1 j2 j3:Nat}{d:Rh}{v1 v2 v3:V}(R:aP K C F H σ e ob fp)(h1:(c1,o1)∈ob)(h3:(c3,o3)∈ob)(hc:c1≠c3)(l1:mj K F σ c1 v1)(l3:mj K F σ c3 v3)(hx:DA K F d v2)(g1:j1<e.length)(g2:j2<e.length)(g3:j3<e.length)(n12:j1≠j2)(n13:j1≠j3)(n23:j2≠j3):bv [j1,j2,j3] σ F H e (Fo ob fp) (((σ.set j1 (some v1)).set j2 (some v2)).set j3 (some v3)) F H (lA j1 j2 j3 d e) (Fo ((.s j1,o1)::(.s j3,o3)::oF c1 c3 j1 j2 j3 ob) (p6 c1 c3 j1 j3 fp))/\aP K C F H (((σ.set j1 (some v1)).set j2 (some v2)).set j3 (some v3)) (lA j1 j2 j3 d e) ((.s j1,o1)::(.s j3,o3)::oF c1 c3 j1 j2 j3 ob) (p6 c1 c3 j1 j3 fp):=by
 have R1:=(R.rel.drop j1).poke (some v1);obtain⟨R2,o2⟩:=R1.setD j2 hx;have R3:=(R2.drop j3).poke (some v3);have ow:∀a,bi (((σ.set j1 (some v1)).set j2 (some v2)).set j3 (some v3)) (lA j1 j2 j3 d e) H a->bi σ e H a:=λa⟨j,z⟩=>by obtain⟨j',z'⟩:=o2 a (bi.drop ⟨j,eE.mp z⟩);exact bi.drop ⟨j',eE.mp z'⟩
 have ls:σ.length=e.length:=R.rel.len;have mo:∀{p},p∈oF c1 c3 j1 j2 j3 ob->p∈ob/\p.1≠c1/\p.1≠c3/\p.1.slot≠j1/\p.1.slot≠j2/\p.1.slot≠j3:=fun{p}h=>by obtain⟨w1,w2⟩:=Tj.mp h;exact⟨w1,by simpa using w2⟩
 have f1:p6 c1 c3 j1 j3 fp (.s j1)=fp c1:=if_pos rfl;have f3:p6 c1 c3 j1 j3 fp (.s j3)=fp c3:=by unfold p6;rw[if_neg (by intro w;cases w;exact n13 rfl),if_pos rfl]
 have fo:∀{p},p∈oF c1 c3 j1 j2 j3 ob->p6 c1 c3 j1 j3 fp p.1=fp p.1:=fun{p}h=>by obtain⟨_,_,_,w1,_,w3⟩:=mo h;unfold p6;rw[if_neg (by intro w;rw[w]at w1;exact w1 rfl),if_neg (by intro w;rw[w]at w3;exact w3 rfl)]
 have sub:∀a,Fo ((.s j1,o1)::(.s j3,o3)::oF c1 c3 j1 j2 j3 ob) (p6 c1 c3 j1 j3 fp) a->Fo ob fp a:=by
  rintro a⟨p,hp,ha⟩;rcases Re hp with rfl|hp;·rw[f1]at ha;exact⟨_,h1,ha⟩
  rcases Re hp with rfl|hp;·rw[f3]at ha;exact⟨_,h3,ha⟩
  ·rw[fo hp]at ha;exact⟨p,(mo hp).1,ha⟩
 refine⟨⟨ao.refl _,λ_ z=>z,λ_ _ z _ _ _=>z,λ_ vs z=>⟨vs,z⟩,λ_ _ z _ _=>z,λa z=>.inl (z.imp (ow a) (sub a)),λj n=>?_,λ_ _ z _ _ _=>z⟩,⟨R3,λp hp=>?_,λp hp q hq hne a ha hb=>?_,λa ha z=>R.own a (sub a ha) (ow a z)⟩⟩;·simp only[Su,Ti,or_false,not_or]at n;rw[RI (RJ n.2.2),RI (RJ n.2.1),RI (RJ n.1)]
 ·rcases Re hp with rfl|hp
  ·obtain⟨_,u,c2,c3'⟩:=R.obs _ h1;have:=c2.uniq l1;subst this;refine⟨?_,u,?_,by rw[f1];exact c3'⟩;·show(lA j1 j2 j3 d e)[j1]?=_;unfold lA;rw[RI (RJ n13),RI (RJ n12),Sj g1]
   ·show(((σ.set j1 (some u)).set j2 (some v2)).set j3 (some v3))[j1]?=_;rw[RI (RJ n13),RI (RJ n12),Sj (by rw[ls];exact g1)]
  rcases Re hp with rfl|hp
  ·obtain⟨_,u,c2,c3'⟩:=R.obs _ h3;have:=c2.uniq l3;subst this;refine⟨?_,u,?_,by rw[f3];exact c3'⟩;·show(lA j1 j2 j3 d e)[j3]?=_;unfold lA;rw[Sj (by simpa using g3)]
   ·show(((σ.set j1 (some v1)).set j2 (some v2)).set j3 (some u))[j3]?=_;rw[Sj (by simpa[ls]using g3)]
  ·obtain⟨w0,w1,w2,w3,w4,w5⟩:=mo hp;obtain⟨d1,u,d2,d3⟩:=R.obs p w0;refine⟨?_,u,d2.mono (ao.refl _) ?_,by rw[fo hp];exact d3⟩;·unfold lA;rw[RI (RJ w5),RI (RJ w4),RI (RJ w3)];exact d1
   ·rw[RI (RJ w5),RI (RJ w4),RI (RJ w3)]
 ·rcases Re hp with rfl|hp
  ·rw[f1]at ha;rcases Re hq with rfl|hq;·exact hne rfl
   rcases Re hq with rfl|hq;·rw[f3]at hb;exact R.dis _ h1 _ h3 hc a ha hb
   ·rw[fo hq]at hb;exact R.dis _ h1 q (mo hq).1 (RJ (mo hq).2.1) a ha hb
  rcases Re hp with rfl|hp
  ·rw[f3]at ha;rcases Re hq with rfl|hq;·rw[f1]at hb;exact R.dis _ h1 _ h3 hc a hb ha
   rcases Re hq with rfl|hq;·exact hne rfl
   ·rw[fo hq]at hb;exact R.dis _ h3 q (mo hq).1 (RJ (mo hq).2.2.1) a ha hb
  ·rw[fo hp]at ha;rcases Re hq with rfl|hq;·rw[f1]at hb;exact R.dis p (mo hp).1 _ h1 (mo hp).2.1 a ha hb
   rcases Re hq with rfl|hq;·rw[f3]at hb;exact R.dis p (mo hp).1 _ h3 (mo hp).2.2.1 a ha hb
   ·rw[fo hq]at hb;exact R.dis p (mo hp).1 q (mo hq).1 hne a ha hb
open Classical in noncomputable def ql(i1 i2 i3 j1 j2 j3:Nat)(ds:List Rh)(f:XS):List Rh->Nat->EX->Option J9|[],_,x=>if x.1[i2]?=some (some (.l ds)) then some (.nx x) else none|d::r,k,x=>(x.2.lookup (.it i1 k)).bind λo1=>(x.2.lookup (.it i3 k)).bind λo3=>if j1<x.1.length/\j2<x.1.length/\j3<x.1.length/\x.1[i2]?=some (some (.l ds)) then(f (lA j1 j2 j3 d x.1,(.s j1,o1)::(.s j3,o3)::oF (.it i1 k) (.it i3 k) j1 j2 j3 x.2)).bind λfl=>match fl with|.nx x2=>ql i1 i2 i3 j1 j2 j3 ds f r (k+1) x2|.ct x2=>ql i1 i2 i3 j1 j2 j3 ds f r (k+1) x2|.bk x2=>some (.nx x2)|.rt v x2=>some (.rt v x2)else none
noncomputable def xP(i1 i2 i3 j1 j2 j3:Nat)(f:XS):XS:=λx=>match x.1[i2]? with|some (some (.l ds))=>if (x.2.lookup (.it i1 0)).isSome=true/\(x.2.lookup (.it i3 0)).isSome=true then ql i1 i2 i3 j1 j2 j3 ds f ds 0 x else none|_=>none
theorem F9{i1 i2 i3 j1 j2 j3 k0:Nat}{W:List Nat}{f:XS}{a b c y1 y2 y3:Str}{p1 p2 p3 q1 q2 q3 tp p zp pos:Pos}{body:List Rx}(hp:Uu (Ry X.prog X.w) X.A X.env X.xe)(hK:X.K=K)(hc:X.calm=true)(hg:Gl X "zip")(hm:X.mg "zip"=none)(v1:PE X (.Name y1 q1) (mJ i1))(v2:PE X (.Name y2 q2) (mJ i2))(v3:PE X (.Name y3 q3) (mJ i3))(e1:RB [.Name y1 q1,.Name y2 q2,.Name y3 q3] X.env=[(false,RC (.Name y1 q1) X.env),(false,RC (.Name y2 q2) X.env),(false,RC (.Name y3 q3) X.env)])(e2:RB [.Name y2 q2,.Name y3 q3] X.env=[(false,RC (.Name y2 q2) X.env),(false,RC (.Name y3 q3) X.env)])(hN:X.N.Nodup)(h1:X.N[j1]?=some a)(h2:X.N[j2]?=some b)(h3:X.N[j3]?=some c)(x1:zo X.env.scope a)(x2:zo X.env.scope b)(x3:zo X.env.scope c)(f1:X.fn a=true\/X.env.scope.names.lookup a=some .local)(f2:X.fn b=true\/X.env.scope.names.lookup b=some .local)(f3:X.fn c=true\/X.env.scope.names.lookup c=some .local)(a1:(Sa [.Name a p1,.Name b p2,.Name c p3] X.env).map (·.2)=Td (.Name a p1) X.env::(Sa [.Name b p2,.Name c p3] X.env).map (·.2))(a2:(Sa [.Name b p2,.Name c p3] X.env).map (·.2)=Td (.Name b p2) X.env::(Sa [.Name c p3] X.env).map (·.2))(a3:(Sa [.Name c p3] X.env).map (·.2)=Td (.Name c p3) X.env::(Sa [] X.env).map (·.2))(hn:(Sa [.Name a p1,.Name b p2,.Name c p3] X.env).length=3)(hst:(Sa [.Name a p1,.Name b p2,.Name c p3] X.env).findIdx? (·.1)=none)(nn:i2∉j1::j2::j3::W/\i1≠i3/\i1∉j1::j2::j3::W/\i3∉j1::j2::j3::W/\j1≠j2/\j1≠j3/\j2≠j3)(hb:ke X body (qe K C f W))(hs:∀x,Uh (.Call (.Name "zip" p) [.Name y1 q1,.Name y2 q2,.Name y3 q3] [] zp) X.env x=pure x):PS X (.For (.Tuple [.Name a p1,.Name b p2,.Name c p3] k0 tp) (.Call (.Name "zip" p) [.Name y1 q1,.Name y2 q2,.Name y3 q3] [] zp) body [] pos) (qe K C (xP i1 i2 i3 j1 j2 j3 f) (j1::j2::j3::W)):=by
 refine(yT hp hc (C1 hK hg hm (nV v1 (nV v2 (nV v3 fL rfl) rfl) rfl) e1 e2) (vO hK hc (jv (lN hN h1 x1 f1) (jv (lN hN h2 x2 f2) (jv (lN hN h3 x3 f3) vP a3) a2) a1) hn hst) hb hs).mono λD σ0 H0 hh=>?_;obtain⟨F0,x0,fp0,fl,R0,hf,q0⟩:=hh;obtain⟨ni2,n13,ni1,ni3,m12,m13,m23⟩:=nn;unfold xP at hf;split at hf;case h_2=>cases hf
 case h_1 ds hds=>
 split at hf;case isFalse=>cases hf
 case isTrue hlk=>
 obtain⟨o1,ho1⟩:=UT.mp hlk.1;obtain⟨o3,ho3⟩:=UT.mp hlk.2;obtain⟨_,_,⟨l1,vs1,s1,t1,_⟩,_⟩:=R0.obs _ (bF ho1);obtain⟨_,_,⟨l3,vs3,s3,t3,_⟩,_⟩:=R0.obs _ (bF ho3);obtain⟨l2,us0,s2,_,t2,D0⟩:=R0.rel.own i2 _ hds;have S1:fX K F0 l1 vs1:=fX.of t1;have S3:fX K F0 l3 vs3:=fX.of t3;have up:∀{F H:Hp}{l:xM}{xs:List V},ao F0 F->ao F H->fX K F0 l xs->tH true K H l xs:=λs t h=>by show fX K _ _ _;exact ao.seq t (ao.seq s h)
 refine⟨.ref l1,s1,.ref l2,s2,.ref l3,s3,l1,l2,l3,rfl,⟨vs1,up (ao.refl _) R0.rel.sm S1⟩,⟨us0,fX.of t2⟩,⟨vs3,up (ao.refl _) R0.rel.sm S3⟩,?_⟩;refine⟨λk m σ H=>m=ds.length-k/\k<=ds.length/\∃F x fp,aP K C F H σ x.1 x.2 fp/\ao F0 F/\σ[i1]?=some (some (.ref l1))/\σ[i2]?=some (some (.ref l2))/\σ[i3]?=some (some (.ref l3))/\ql i1 i2 i3 j1 j2 j3 ds f (ds.drop k) k x=some fl/\jk K C (j1::j2::j3::W) σ F H x.1 (Fo x.2 fp) D fl,⟨ds.length,by simp,Tq _,F0,x0,fp0,R0,ao.refl _,s1,s2,s3,hf,q0⟩,?_⟩;rintro k m σ H⟨rfl,hk,F,x,fp,R,sF,σ1,σ2,σ3,hf,q⟩;have ow2:x.1[i2]?=some (some (.l ds))->∃us,H l2=some (.lst us)/\aT K F ds us:=λh=>by obtain⟨l,us,d1,_,d3,d4⟩:=R.rel.own i2 _ h;rw[σ2]at d1;cases d1;exact⟨us,d3,d4⟩
 by_cases hlt:k<ds.length
 ·have hd:ds.drop k=ds[k]::ds.drop (k+1):=Vb hlt;rw[hd]at hf;unfold ql at hf;obtain⟨o1,g1,hf⟩:=Q6 hf;obtain⟨o3,g3,hf⟩:=Q6 hf;split at hf;case isFalse=>cases hf
  case isTrue hj=>
  obtain⟨fl2,hbd,hf⟩:=Q6 hf;obtain⟨_,w1,c1,_⟩:=R.obs _ (bF g1);obtain⟨_,w3,c3,_⟩:=R.obs _ (bF g3);have at1:vs1[k]?=some w1:=by obtain⟨l,vs,d1,d2,d3⟩:=c1;rw[σ1]at d1;cases d1;rw[sF _ _ t1]at d2;cases d2;exact d3
  have at3:vs3[k]?=some w3:=by obtain⟨l,vs,d1,d2,d3⟩:=c3;rw[σ3]at d1;cases d1;rw[sF _ _ t3]at d2;cases d2;exact d3
  obtain⟨us,T2,D2⟩:=ow2 hj.2.2.2;have S2:tH true K H l2 us:=fX.of T2;obtain⟨w2,at2,A2⟩:=D2.get (SN hlt);refine .inr ⟨⟨vs1,us,vs3,w1,w2,w3,up sF R.rel.sm S1,S2,up sF R.rel.sm S3,at1,at2,at3⟩,λσ' H'=>∃F x fp,aP K C F H' σ' x.1 x.2 fp/\ao F0 F/\σ'[i1]?=some (some (.ref l1))/\σ'[i2]?=some (some (.ref l2))/\σ'[i3]?=some (some (.ref l3))/\ql i1 i2 i3 j1 j2 j3 ds f (ds.drop (k+1)) (k+1) x=some fl/\jk K C (j1::j2::j3::W) σ' F H' x.1 (Fo x.2 fp) D fl,λσ' H' r=>⟨ds.length-(k+1),by lia,rfl,hlt,r⟩,λv H' hy=>?_⟩;obtain⟨pp,u1,u2,u3,rfl,hpp,rfl,hall⟩:=hy;obtain⟨b1,b2,b3⟩:=hall vs1 us vs3 (up sF R.rel.sm S1) S2 (up sF R.rel.sm S3);rw[at1]at b1;cases b1;rw[at2]at b2;cases b2;rw[at3]at b3;cases b3;have fpp:F pp=none:=R.rel.freeF hpp;have sm1:ao F (bg H pp (.tup [w1,w2,w3])):=λa u z=>by rw[av (λw=>by rw[w,fpp]at z;cases z)];exact R.rel.sm a u z
  obtain⟨Y1,R1,_⟩:=R.later (T:=λ_=>False) (F':=F) (H':=bg H pp (.tup [w1,w2,w3])) (ao.refl _) sm1 (λa z=>by
   by_cases w:a=pp;·rw[w];exact hpp
   ·rwa[av w]at z) (λa u z=>by rw[av (λw=>by rw[w,hpp]at z;cases z)];exact z) (λa z _=>z) λa ha=>ha.elim;have Y1':bv [] σ F H x.1 (Fo x.2 fp) σ F (bg H pp (.tup [w1,w2,w3])) x.1 (Fo x.2 fp):=⟨Y1.sf,Y1.dom,Y1.fr,Y1.lst,Y1.tmp,λa z=>Y1.own a (z.imp_right .inl),Y1.wr,Y1.fd⟩;obtain⟨Y2,R2⟩:=R1.take2 (bF g1) (bF g3) (λw=>by cases w;exact n13 rfl) c1 c3 A2 hj.1 hj.2.1 hj.2.2.1 m12 m13 m23;have sA:∀j,j∈([]:List Nat)->j∈j1::j2::j3::W:=λj h=>by cases h
  have sB:∀j,j∈[j1,j2,j3]->j∈j1::j2::j3::W:=λj h=>by
   simp only[Su,Ti,or_false]at h⊢;rcases h with h|h|h;·exact .inl h
   ·exact .inr (.inl h)
   ·exact .inr (.inr (.inl h))
  have sC:∀j,j∈W->j∈j1::j2::j3::W:=λj h=>by simp[h]
  have sD:∀j,j∈j1::j2::j3::W->j∈j1::j2::j3::W:=λj h=>h;have q2:=(q.later (W1:=[]) (W2:=j1::j2::j3::W) Y1' sA sD).later (W2:=j1::j2::j3::W) Y2 sB sD;refine⟨pp,[w1,w2,w3],rfl,.inl (.inl au),rfl,w1,[w2,w3],rfl,w2,[w3],rfl,w3,[],rfl,rfl,?_⟩;have kp:∀i,i∉j1::j2::j3::W->∀σ4:L2.St,σ4[i]?=(((σ.set j1 (some w1)).set j2 (some w2)).set j3 (some w3))[i]?->σ4[i]?=σ[i]?:=λi ni σ4 h=>by simp only[Su,not_or]at ni;rw[h,RI (RJ ni.2.2.1),RI (RJ ni.2.1),RI (RJ ni.1)]
  have nW:∀i,i∉j1::j2::j3::W->i∉W:=λi ni z=>ni (sC i z);refine⟨F,(lA j1 j2 j3 ds[k] x.1,(.s j1,o1)::(.s j3,o3)::oF (.it i1 k) (.it i3 k) j1 j2 j3 x.2),_,fl2,R2,hbd,?_⟩;cases fl2 with|nx x3=>exactλF3 H3 σ4 fp3 y3 R3=>⟨F3,x3,fp3,R3,sF.trans y3.sf,(kp i1 ni1 σ4 (y3.wr i1 (nW i1 ni1))).trans σ1,(kp i2 ni2 σ4 (y3.wr i2 (nW i2 ni2))).trans σ2,(kp i3 ni3 σ4 (y3.wr i3 (nW i3 ni3))).trans σ3,hf,q2.later y3 sC sD⟩|ct x3=>exactλF3 H3 σ4 fp3 y3 R3=>⟨F3,x3,fp3,R3,sF.trans y3.sf,(kp i1 ni1 σ4 (y3.wr i1 (nW i1 ni1))).trans σ1,(kp i2 ni2 σ4 (y3.wr i2 (nW i2 ni2))).trans σ2,(kp i3 ni3 σ4 (y3.wr i3 (nW i3 ni3))).trans σ3,hf,q2.later y3 sC sD⟩|bk x3=>cases hf;exactλF3 H3 σ4 fp3 y3 R3=>q2 F3 H3 σ4 fp3 (y3.mono sC) R3|rt r x3=>cases hf;exactλF3 H3 σ4 v fp3 y3 R3 A3=>q2 F3 H3 σ4 v fp3 (y3.mono sC) R3 A3
 ·have hd:ds.drop k=[]:=Vc (by lia);rw[hd]at hf;unfold ql at hf;split at hf;case isFalse=>cases hf
  case isTrue hx=>cases hf;obtain⟨us,T2,D2⟩:=ow2 hx;have ul:=D2.len;exact .inl ⟨⟨vs1,us,vs3,up sF R.rel.sm S1,fX.of T2,up sF R.rel.sm S3,.inr (.inl (by lia))⟩,q F H σ fp bv.refl R⟩
def wk(f g:XE):XE:=λx=>(f x).bind λp=>match p.1 with|.bool b=>if b=true then g p.2 else some (.bool false,p.2)|_=>none
theorem FY{a b:Rl}{aB:List Rl}{pos:Pos}{fa fb:XE}(ha:PE X a (ir K C fa))(hb:PE X (.BoolOp .And (b::aB) pos) (ir K C fb)):PE X (.BoolOp .And (a::b::aB) pos) (ir K C (wk fa fb)):=(CP ha hb).mono λσ H Q h=>by
 obtain⟨F,x,fp,z,x2,R,hf,q⟩:=h;unfold wk at hf;obtain⟨⟨d,x1⟩,h1,hf⟩:=Q6 hf;dsimp only at hf;split at hf;case h_2=>cases hf
 case h_1 b=>refine⟨F,x,fp,_,x1,R,h1,λF1 H1 v fp1 X1 R1 A1=>⟨b,cS.mp A1,?_⟩⟩;cases b with|true=>exact⟨F1,x1,fp1,z,x2,R1,hf,λF2 H2 w fp2 X2 R2 A2=>q F2 H2 w fp2 (X1.trans X2) R2 A2⟩|false=>cases hf;exact q F1 H1 _ fp1 X1 R1 (cS.mpr rfl)
theorem Df{a:Rl}{pos:Pos}{fa:XE}(ha:PE X a (ir K C fa)):PE X (.BoolOp .And [a] pos) (ir K C fa):=CW ha
end
end L2
namespace V90
open PySem PySem.Spec PyProof.Rows L2
variable{P:Rw}{w:Ro}{K:Rj}{mg:Str->Option Oq}{base:Ru}{f:xM}{fd:RD}
local macro_rules|`(tactic|trivial)=>`(tactic|first|exact .inl rfl|exact .inr rfl|assumption)
local macro_rules|`(¬$n:num)=>`(@qw _ _ $n _ _ (by rfl) (by rfl) (by decide))
local macro_rules|`($a∘$b)=>`(@MZ _ _ _ _ _ _ $a $b (by rfl))
theorem nj{α:Type u}{β:Type v}{f:α->β}:UC f []=[]:=rfl
theorem ng{α:Type u}{β:Type v}{f:α->β}{a:α}{l:List α}:UC f (a::l)=f a::UC f l:=rfl
theorem m7{α:Type u}{l:List α}:[]++l=l:=rfl
theorem m6{α:Type u}{a:α}{l m:List α}:(a::l)++m=a::(l++m):=rfl
theorem m9{α:Type u}{a:α}{l:List α}:(a::l)[0]?=some a:=rfl
theorem m_{α:Type u}{a:α}{l:List α}{i:Nat}:(a::l)[i+1]?=l[i]?:=rfl
theorem m8{α:Type u}{β:Type v}{a:α}{f:α->Option β}:Option.bind (some a) f=f a:=rfl
theorem nu{α:Type u}{β:Type v}{a:α}{f:α->β}:Option.map f (some a)=some (f a):=rfl
structure cA (mg:Str->Option Oq):Prop where
 b_abs:mg "abs"=none
 b_len:mg "len"=none
 b_min:mg "min"=none
 b_max:mg "max"=none
 b_range:mg "range"=none
 b_tuple:mg "tuple"=none
 b_int:mg "int"=none
 b_sorted:mg "sorted"=none
 b_zip:mg "zip"=none
 b_enumerate:mg "enumerate"=none
 b_isinstance:mg "isinstance"=none
 b_set:mg "set"=none
 b_sum:mg "sum"=none
 b_all:mg "all"=none
 HF:mg "list"=none
 b_reversed:mg "reversed"=none
 b_str:mg "str"=none
 b_ValueError:mg "ValueError"=none
abbrev Cl(P:Rw)(w:Ro)(K:Rj)(mg:Str->Option Oq)(base:Ru)(n:Str)(s:Rx)(ps:List Str)(lv k:Nat)(m:FM):Prop:=∃f fd,dO K mg n s f fd ps/\aG P w K mg base ck lv f fd ps (eu K k m)
noncomputable def pI:FS:=(bw (yg (aA dI (aA dI (ab 0) (vC (.int 1))) (ab 1)) gU (gG (vC (.int 2)))))
noncomputable def ci:FM:=jf 2 0 [] pI
theorem oA:ay ["web","tie"] ["web","tie"] (aj dm):=⟨rfl,rfl,rfl,by decide+kernel,rfl,by decide+kernel,by decide+kernel⟩
theorem vL(h:dO K mg "things_of" dm f fd ["web","tie"])(T:cA mg):aG P w K mg base ck 1 f fd ["web","tie"] (eu K 2 ci):=by have nd:=oA.nd;exact h.fn oA rfl rfl (λcdv A outer s H E hr=>(@ar _ _ _ _ _ (@aE _ _ _ _ _ (@qt _ _ _ _ _ _ _ _ _ _ rfl (@cu _ _ _ _ _ _ _ rfl (@cu _ _ _ _ _ _ _ rfl (¬0) ae (λ_ _=>rfl)) (¬1) (λ_ _=>rfl)) (@j7 _ _) (@j8 _ _ _ _ ae)))))
noncomputable def l9:FI:=(kW (ab 1))
noncomputable def dQ:FT:=(az (aA (yf false) (ab 0) (dG 2 ci (aa (ab 1) (aa (ab 2) ah)))))
noncomputable def dS:FE:=(ab 2)
noncomputable def pG:FS:=(bw (aJ (g1 iT) (aa (cw [(2,"thing"),(0,"web")] 1 l9 (am 2) dQ dS) ah)))
noncomputable def gE:FM:=jf 3 0 [] pG
theorem oy:ay ["web","asked","thing"] ["web","asked","thing"] (aj gK):=⟨rfl,rfl,rfl,by decide+kernel,rfl,by decide+kernel,by decide+kernel⟩
theorem vJ(h:dO K mg "many_asks" gK f fd ["web","asked","thing"])(T:cA mg)(z_things_of:Cl P w K mg base "things_of" dm ["web","tie"] 1 2 ci):aG P w K mg base ck 2 f fd ["web","asked","thing"] (eu K 3 gE):=by obtain⟨Pm,Pn,OD,ON⟩:=z_things_of;have nd:=oy.nd;exact h.fn oy rfl rfl (λcdv A outer s H E hr=>(@ar _ _ _ _ _ (@aE _ _ _ _ _ (@a_ _ _ _ _ _ _ _ _ _ (@b_len _ _ rfl) (by rfl) T.b_len ((@eT _ _ _ _ _ _ _ _ _ _ _ _ _ [(2,"thing"),(0,"web")] ["tie"] rfl rfl (@fP _ _ _ _ _ rfl (¬1)) (λC s0 H0 fp=>(@aR _ _ _ 2 _ (show SY (["thing","web","tie"]:List Str) by decide+kernel) rfl (Or.inl rfl) (by trivial))) (λC s0 H0 fp=>(@ka _ _ _ _ (@aQ _ _ _ _ _ _ _ _ _ (@Av _ _ _ rfl hr) (¬0) (@bP _ _ _ _ _ _ _ _ _ _ _ _ _ _ _ OD ON (hr.mono (by decide)) ((¬1)∘((¬2)∘ac)) (by rfl) (by decide) (by rfl) (by rfl)) (by with_unfolding_all rfl)))) (λC s0 H0 fp=>(¬2)) rfl (by rfl) (by intro _;rfl))∘ac) (by decide) (by decide) (by rfl) (by rfl)))))
noncomputable def fw:FS:=(aU (lW (ab 1) (cf (aF (am 3) (aF (am 4) bY)))) (bw (jH (aA (yf true) (ab 2) (ab 4)) (aA G0 (dG 3 gE (aa (ab 0) (aa (ab 3) (aa (ab 2) ah)))) (aA dI (aA dI (ab 0) (vC (.int 2))) (ab 2))))))
noncomputable def bV:FM:=jf 3 2 (([3]++([4]++[]))++[]) fw
theorem i4:ay ["web","stand","thing","asked","taken"] ["web","stand","thing"] (aj cD):=⟨rfl,rfl,rfl,by decide+kernel,rfl,by decide+kernel,by decide+kernel⟩
theorem nP(h:dO K mg "bears_one_more" cD f fd ["web","stand","thing"])(T:cA mg)(z_many_asks:Cl P w K mg base "many_asks" gK ["web","asked","thing"] 2 3 gE):aG P w K mg base ck 3 f fd ["web","stand","thing"] (eu K 3 bV):=by obtain⟨QA,QB,OX,PZ⟩:=z_many_asks;have nd:=i4.nd;exact h.fn i4 rfl rfl (λcdv A outer s H E hr=>(@af _ _ _ _ _ _ _ _ (@rO _ _ _ _ _ _ _ _ (¬1) (@jc _ _ _ _ _ _ _ _ rfl rfl (@bu _ _ _ _ _ _ _ _ (@aR _ _ _ 3 _ nd rfl (Or.inl rfl) (by trivial)) (@bu _ _ _ _ _ _ _ _ (@aR _ _ _ 4 _ nd rfl (Or.inl rfl) (by trivial)) (@gb _ _) (by rfl)) (by rfl)) (bM (bM ja)) (by rfl) (by rfl)) (by rfl) (by rfl) (by rfl)) (@ar _ _ _ _ _ (@aE _ _ _ _ _ (@Dg _ _ _ _ _ _ _ _ (@rK _ _ _ _ _ _ _ _ _ (@Ex _ _ _ rfl hr) (¬2) (¬4) (by with_unfolding_all rfl)) (@Dj _ _ _ _ _ _ (@rK _ _ _ _ _ _ _ _ _ (@Ew _ _) (@bP _ _ _ _ _ _ _ _ _ _ _ _ _ _ _ OX PZ (hr.mono (by decide)) ((¬0)∘((¬3)∘((¬2)∘ac))) (by rfl) (by decide) (by rfl) (by rfl)) (@cu _ _ _ _ _ _ _ rfl (@cu _ _ _ _ _ _ _ rfl (¬0) ae (λ_ _=>rfl)) (¬2) (λ_ _=>rfl)) (aH _))))))))
noncomputable def pQ:FI:=(kW (dG 2 ci (aa (ab 0) (aa (ab 2) ah))))
noncomputable def kQ:FE:=(dG 3 bV (aa (ab 0) (aa (ab 1) (aa (ab 2) ah))))
noncomputable def lC:FS:=(aU (bx 3 (aA dI (ab 1) (vC (.int 0)))) (aU (jx (tF (az (aA (yf false) (ab 2) (ab 3))) (az (aA GX (aJ (g1 iT) (aa (ab 3) ah)) (aA dI (ab 0) (vC (.int 3)))))) (bw (vC (.bool false))) cY) (bw (aJ (g1 (jm wY)) (aa (cw [(0,"web"),(1,"stand")] 1 pQ (am 2) jG kQ) ah)))))
noncomputable def dB:FM:=jf 3 1 ([3]++(([]++[])++[])) lC
theorem sd:ay ["web","stand","tie","asked"] ["web","stand","tie"] (aj iA):=⟨rfl,rfl,rfl,by decide+kernel,rfl,by decide+kernel,by decide+kernel⟩
theorem yP(h:dO K mg "may_ask" iA f fd ["web","stand","tie"])(T:cA mg)(z_bears_one_more:Cl P w K mg base "bears_one_more" cD ["web","stand","thing"] 3 3 bV)(z_things_of:Cl P w K mg base "things_of" dm ["web","tie"] 1 2 ci):aG P w K mg base ck 4 f fd ["web","stand","tie"] (eu K 3 dB):=by obtain⟨Qa,Qb,OG,Pj⟩:=z_bears_one_more;obtain⟨Pm,Pn,OD,ON⟩:=z_things_of;have nd:=sd.nd;exact h.fn sd rfl rfl (λcdv A outer s H E hr=>(@af _ _ _ _ _ _ _ _ (@aS _ _ _ _ _ 3 _ _ nd rfl (Or.inl rfl) (@cu _ _ _ _ _ _ _ rfl (¬1) ae (λ_ _=>rfl)) (by rfl) (by trivial)) (@af _ _ _ _ _ _ _ _ (@cL _ _ _ _ _ _ _ _ _ _ _ (@rP _ _ _ _ (@pU _ _ _ _ _ _ _ _ (@aQ _ _ _ _ _ _ _ _ _ (@Av _ _ _ rfl hr) (¬2) (¬3) (by with_unfolding_all rfl)) (@lm _ _ _ _ _ (@aQ _ _ _ _ _ _ _ _ _ (@BD _ _) (@a_ _ _ _ _ _ _ _ _ _ (@b_len _ _ rfl) (by rfl) T.b_len ((¬3)∘ac) (by decide) (by decide) (by rfl) (by rfl)) (@cu _ _ _ _ _ _ _ rfl (¬0) ae (λ_ _=>rfl)) (aH _))))) (@ar _ _ _ _ _ (@aE _ _ _ _ _ (@md _ _ _ _ _))) (@bh _ _)) (@ar _ _ _ _ _ (@aE _ _ _ _ _ (@a_ _ _ _ _ _ _ _ _ _ (@b_all _ _ _ rfl hr) (by rfl) T.b_all ((@eT _ _ _ _ _ _ _ _ _ _ _ _ _ [(0,"web"),(1,"stand")] ["thing"] rfl rfl (@fP _ _ _ _ _ rfl (@bP _ _ _ _ _ _ _ _ _ _ _ _ _ _ _ OD ON (hr.mono (by decide)) ((¬0)∘((¬2)∘ac)) (by rfl) (by decide) (by rfl) (by rfl))) (λC s0 H0 fp=>(@aR _ _ _ 2 _ (show SY (["web","stand","thing"]:List Str) by decide+kernel) rfl (Or.inl rfl) (by trivial))) (λC s0 H0 fp=>(@qA _ _)) (λC s0 H0 fp=>(@bP _ _ _ _ _ _ _ _ _ _ _ _ _ _ _ OG Pj (hr.mono (by decide)) ((¬0)∘((¬1)∘((¬2)∘ac))) (by rfl) (by decide) (by rfl) (by rfl))) rfl (by rfl) (by intro _;rfl))∘ac) (by decide) (by decide) (by rfl) (by rfl)))))))
noncomputable def iC:FS:=(aU (lW (ab 1) (cf (aF (am 4) (aF (am 5) bY)))) (aU (jx (az (ab 3)) (bx 5 (aJ (g1 eL) (aa (aJ (g1 fB) (aa (aA cP (ab 5) (dG 2 ci (aa (ab 0) (aa (ab 2) ah)))) ah)) ah))) cY) (bw (cN (aa (aJ (g1 eL) (aa (aJ (g1 fB) (aa (aA cP (ab 4) (cN (aa (ab 2) ah))) ah)) ah)) (aa (ab 5) ah))))))
noncomputable def bZ:FM:=jf 4 2 (([4]++([5]++[]))++(([5]++[])++[])) iC
theorem kh:ay ["web","stand","tie","truth","asked","taken"] ["web","stand","tie","truth"] (aj di):=⟨rfl,rfl,rfl,by decide+kernel,rfl,by decide+kernel,by decide+kernel⟩
theorem qi(h:dO K mg "stand_behind" di f fd ["web","stand","tie","truth"])(T:cA mg)(z_things_of:Cl P w K mg base "things_of" dm ["web","tie"] 1 2 ci):aG P w K mg base ck 2 f fd ["web","stand","tie","truth"] (eu K 4 bZ):=by obtain⟨Pm,Pn,OD,ON⟩:=z_things_of;have nd:=kh.nd;exact h.fn kh rfl rfl (λcdv A outer s H E hr=>(@af _ _ _ _ _ _ _ _ (@rO _ _ _ _ _ _ _ _ (¬1) (@jc _ _ _ _ _ _ _ _ rfl rfl (@bu _ _ _ _ _ _ _ _ (@aR _ _ _ 4 _ nd rfl (Or.inl rfl) (by trivial)) (@bu _ _ _ _ _ _ _ _ (@aR _ _ _ 5 _ nd rfl (Or.inl rfl) (by trivial)) (@gb _ _) (by rfl)) (by rfl)) (bM (bM ja)) (by rfl) (by rfl)) (by rfl) (by rfl) (by rfl)) (@af _ _ _ _ _ _ _ _ (@cL _ _ _ _ _ _ _ _ _ _ _ (@iL _ _ _ _ (¬3) (by intro _;rfl)) (@ar _ _ _ _ _ (@aS _ _ _ _ _ 5 _ _ nd rfl (Or.inl rfl) (@a_ _ _ _ _ _ _ _ _ _ (@b_tuple _ _ rfl) (by rfl) T.b_tuple ((@a_ _ _ _ _ _ _ _ _ _ (@b_sorted _ _ rfl) (by rfl) T.b_sorted ((@dJ _ _ _ _ _ _ _ rfl (¬5) (@bP _ _ _ _ _ _ _ _ _ _ _ _ _ _ _ OD ON (hr.mono (by decide)) ((¬0)∘((¬2)∘ac)) (by rfl) (by decide) (by rfl) (by rfl)))∘ac) (by decide) (by decide) (by rfl) (by rfl))∘ac) (by decide) (by decide) (by rfl) (by rfl)) (by rfl) (by trivial))) (@bh _ _)) (@ar _ _ _ _ _ (@aE _ _ _ _ _ (@bH _ _ _ _ _ _ ((@a_ _ _ _ _ _ _ _ _ _ (@b_tuple _ _ rfl) (by rfl) T.b_tuple ((@a_ _ _ _ _ _ _ _ _ _ (@b_sorted _ _ rfl) (by rfl) T.b_sorted ((@dJ _ _ _ _ _ _ _ rfl (¬4) (@bH _ _ _ _ _ _ ((¬2)∘ac)))∘ac) (by decide) (by decide) (by rfl) (by rfl))∘ac) (by decide) (by decide) (by rfl) (by rfl))∘((¬5)∘ac))))))))
noncomputable def pH:FS:=(aU (jx (tF (mL (az (ww vG (ab 0)))) (az (aA GY (aJ (g1 oR) (aa (ab 0) ah)) (vC (.int (4)))))) (bw (vC .none)) cY) (aU (bx 1 (aJ (g1 jT) (aa (ab 0) ah))) (bw (zg (az (aA (bc false) (aJ (g1 iU) (aa (ab 1) ah)) (ab 0))) (ab 1) (vC .none)))))
noncomputable def gF:FM:=jf 1 1 (([]++[])++([1]++[])) pH
theorem oz:ay ["word","number"] ["word"] (aj gL):=⟨rfl,rfl,rfl,by decide+kernel,rfl,by decide+kernel,by decide+kernel⟩
theorem vK(h:dO K mg "number_of" gL f fd ["word"])(T:cA mg){t_MOST_FIGURES:Tok}(m_MOST_FIGURES:mg "MOST_FIGURES"=some (.int (4) t_MOST_FIGURES)):aG P w K mg base ck 1 f fd ["word"] (eu K 1 gF):=by have nd:=oz.nd;exact h.fn oz rfl rfl (λcdv A outer s H E hr=>(@af _ _ _ _ _ _ _ _ (@cL _ _ _ _ _ _ _ _ _ _ _ (@rP _ _ _ _ (@pU _ _ _ _ _ _ _ _ (@yV _ _ _ _ _ (@iL _ _ _ _ (@Li _ _ _ _ _ _ (¬0) (by rfl) (by rfl)) (by intro _;rfl))) (@lm _ _ _ _ _ (@aQ _ _ _ _ _ _ _ _ _ (@BE _ _) (@a_ _ _ _ _ _ _ _ _ _ (@Eu _ _) (by rfl) T.b_len ((¬0)∘ac) (by decide) (by decide) (by rfl) (by rfl)) (@zR _ _ _ (V.int (4)) _ _ (PyData.int (4)) rfl m_MOST_FIGURES ⟨_,rfl⟩ (λ_=>cq.mpr rfl) (by decide)) (aH _))))) (@ar _ _ _ _ _ (@aE _ _ _ _ _ (@gP _ _ _ _))) (@bh _ _)) (@af _ _ _ _ _ _ _ _ (@aS _ _ _ _ _ 1 _ _ nd rfl (Or.inl rfl) (@a_ _ _ _ _ _ _ _ _ _ (@zw _ _) (by rfl) T.b_int ((¬0)∘ac) (by decide) (by decide) (by rfl) (by rfl)) (by rfl) (by trivial)) (@ar _ _ _ _ _ (@aE _ _ _ _ _ (@oh _ _ _ _ _ _ _ _ _ (@aQ _ _ _ _ _ _ _ _ _ (@iS _ _ _ rfl hr) (@a_ _ _ _ _ _ _ _ _ _ (@b_str _ _) (by rfl) T.b_str ((¬1)∘ac) (by decide) (by decide) (by rfl) (by rfl)) (¬0) (aH _)) (¬1) (@gP _ _ _ _)))))))
noncomputable def jZ:FI:=(kW (ab 0))
noncomputable def jS:FE:=(aJ (g1 iU) (aa (ab 0) ah))
noncomputable def mr:FS:=(bw (aA pN (vC (.str (" ":Str))) (cw [] 1 jZ (am 0) jG jS)))
noncomputable def cJ:FM:=jf 1 0 [] mr
theorem pZ:ay ["row"] ["row"] (aj fU):=⟨rfl,rfl,rfl,by decide+kernel,rfl,by decide+kernel,by decide+kernel⟩
theorem xx(h:dO K mg "row_line" fU f fd ["row"])(T:cA mg):aG P w K mg base ck 1 f fd ["row"] (eu K 1 cJ):=by have nd:=pZ.nd;exact h.fn pZ rfl rfl (λcdv A outer s H E hr=>(@ar _ _ _ _ _ (@aE _ _ _ _ _ (@Dd _ _ _ _ _ _ _ _ _ rfl (@eT _ _ _ _ _ _ _ _ _ _ _ _ _ [] ["part"] rfl rfl (@fP _ _ _ _ _ rfl (¬0)) (λC s0 H0 fp=>(@aR _ _ _ 0 _ (show SY (["part"]:List Str) by decide+kernel) rfl (Or.inl rfl) (by trivial))) (λC s0 H0 fp=>(@qA _ _)) (λC s0 H0 fp=>(@a_ _ _ _ _ _ _ _ _ _ (@b_str _ _) (by rfl) T.b_str ((¬0)∘ac) (by decide) (by decide) (by rfl) (by rfl))) rfl (by rfl) (by intro _;rfl)) (by rfl) (by rfl) (by rfl) (by rfl) (by rfl)))))
noncomputable def pP:FI:=(kW (ab 0))
noncomputable def kJ:FT:=(az (ab 1))
noncomputable def kP:FE:=(ab 0)
noncomputable def tO:FS:=(bw (aJ (g1 eL) (aa (cw [] 2 pP (cf (aF (am 0) (aF (am 1) bY))) kJ kP) ah)))
noncomputable def fH:FM:=jf 1 0 [] tO
theorem r_:ay ["run"] ["run"] (aj iz):=⟨rfl,rfl,rfl,by decide+kernel,rfl,by decide+kernel,by decide+kernel⟩
theorem yO(h:dO K mg "kept_of" iz f fd ["run"])(T:cA mg):aG P w K mg base ck 1 f fd ["run"] (eu K 1 fH):=by have nd:=r_.nd;exact h.fn r_ rfl rfl (λcdv A outer s H E hr=>(@ar _ _ _ _ _ (@aE _ _ _ _ _ (@a_ _ _ _ _ _ _ _ _ _ (@b_tuple _ _ rfl) (by rfl) T.b_tuple ((@eT _ _ _ _ _ _ _ _ _ _ _ _ _ [] ["tie","truth"] rfl rfl (@fP _ _ _ _ _ rfl (¬0)) (λC s0 H0 fp=>(@jc _ _ _ _ _ _ _ _ rfl rfl (@bu _ _ _ _ _ _ _ _ (@aR _ _ _ 0 _ (show SY (["tie","truth"]:List Str) by decide+kernel) rfl (Or.inl rfl) (by trivial)) (@bu _ _ _ _ _ _ _ _ (@aR _ _ _ 1 _ (show SY (["tie","truth"]:List Str) by decide+kernel) rfl (Or.inl rfl) (by trivial)) (@gb _ _) (by rfl)) (by rfl)) (bM (bM ja)) (by rfl) (by rfl))) (λC s0 H0 fp=>(@ka _ _ _ _ (@iL _ _ _ _ (¬1) (by intro _;rfl)))) (λC s0 H0 fp=>(¬0)) rfl (by rfl) (by intro _;rfl))∘ac) (by decide) (by decide) (by rfl) (by rfl)))))
noncomputable def kY:FI:=(kW (dG 1 fH (aa (ab 1) ah)))
noncomputable def eD:FE:=(aA dI (aA dI (aA dI (ab 0) (vC (.int 1))) (ab 1)) (vC (.int 3)))
noncomputable def mR:FS:=(bw (aJ (g1 (jm tZ)) (aa (cw [(0,"web")] 1 kY (am 1) jG eD) ah)))
noncomputable def eR:FM:=jf 2 0 [] mR
theorem mf:ay ["web","run"] ["web","run"] (aj eZ):=⟨rfl,rfl,rfl,by decide+kernel,rfl,by decide+kernel,by decide+kernel⟩
theorem tf(h:dO K mg "worth_kept" eZ f fd ["web","run"])(T:cA mg)(z_kept_of:Cl P w K mg base "kept_of" iz ["run"] 1 1 fH):aG P w K mg base ck 2 f fd ["web","run"] (eu K 2 eR):=by obtain⟨Qc,Qd,OT,Po⟩:=z_kept_of;have nd:=mf.nd;exact h.fn mf rfl rfl (λcdv A outer s H E hr=>(@ar _ _ _ _ _ (@aE _ _ _ _ _ (@a_ _ _ _ _ _ _ _ _ _ (@b_sum _ _ _ rfl hr) (by rfl) T.b_sum ((@eT _ _ _ _ _ _ _ _ _ _ _ _ _ [(0,"web")] ["tie"] rfl rfl (@fP _ _ _ _ _ rfl (@bP _ _ _ _ _ _ _ _ _ _ _ _ _ _ _ OT Po (hr.mono (by decide)) ((¬1)∘ac) (by rfl) (by decide) (by rfl) (by rfl))) (λC s0 H0 fp=>(@aR _ _ _ 1 _ (show SY (["web","tie"]:List Str) by decide+kernel) rfl (Or.inl rfl) (by trivial))) (λC s0 H0 fp=>(@qA _ _)) (λC s0 H0 fp=>(@cu _ _ _ _ _ _ _ rfl (@cu _ _ _ _ _ _ _ rfl (@cu _ _ _ _ _ _ _ rfl (¬0) ae (λ_ _=>rfl)) (¬1) (λ_ _=>rfl)) ae (λ_ _=>rfl))) rfl (by rfl) (by intro _;rfl))∘ac) (by decide) (by decide) (by rfl) (by rfl)))))
noncomputable def kX:FI:=(eP (aa (aJ (g1 iT) (aa (aA dI (ab 0) (vC (.int 1))) ah)) ah))
noncomputable def gp:FT:=(az (dG 3 dB (aa (ab 0) (aa (ab 1) (aa (ab 2) ah)))))
noncomputable def gw:FE:=(ab 2)
noncomputable def tN:FS:=(bw (cw [(0,"web"),(1,"stand")] 1 kX (am 2) gp gw))
noncomputable def jq:FM:=jf 2 0 [] tN
theorem r9:ay ["web","stand"] ["web","stand"] (aj jA):=⟨rfl,rfl,rfl,by decide+kernel,rfl,by decide+kernel,by decide+kernel⟩
theorem yN(h:dO K mg "asks_at" jA f fd ["web","stand"])(T:cA mg)(z_may_ask:Cl P w K mg base "may_ask" iA ["web","stand","tie"] 4 3 dB):aG P w K mg base ck 5 f fd ["web","stand"] (eu K 2 jq):=by obtain⟨Pp,Pq,OO,OU⟩:=z_may_ask;have nd:=r9.nd;exact h.fn r9 rfl rfl (λcdv A outer s H E hr=>(@ar _ _ _ _ _ (@aE _ _ _ _ _ (@eT _ _ _ _ _ _ _ _ _ _ _ _ _ [(0,"web"),(1,"stand")] ["tie"] rfl rfl (@fN _ _ _ _ _ _ _ rfl T.b_range ((@a_ _ _ _ _ _ _ _ _ _ (@b_len _ _ rfl) (by rfl) T.b_len ((@cu _ _ _ _ _ _ _ rfl (¬0) ae (λ_ _=>rfl))∘ac) (by decide) (by decide) (by rfl) (by rfl))∘ac) (by rfl)) (λC s0 H0 fp=>(@aR _ _ _ 2 _ (show SY (["web","stand","tie"]:List Str) by decide+kernel) rfl (Or.inl rfl) (by trivial))) (λC s0 H0 fp=>(@ka _ _ _ _ (@iL _ _ _ _ (@bP _ _ _ _ _ _ _ _ _ _ _ _ _ _ _ OO OU (hr.mono (by decide)) ((¬0)∘((¬1)∘((¬2)∘ac))) (by rfl) (by decide) (by rfl) (by rfl)) (by intro _;rfl)))) (λC s0 H0 fp=>(¬2)) rfl (by rfl) (by intro _;rfl)))))
noncomputable def jo:FI:=(kW (ab 1))
noncomputable def ji:FS:=(bx 2 (dG 4 bZ (aa (ab 0) (aa (ab 2) (aa (ab 3) (aa (ab 4) ah))))))
noncomputable def kG:FS:=(aU (bx 2 (vC (.tuple [.tuple [],.tuple []]))) (aU (jd (([3]++([4]++[]))++[2]) jo (cf (aF (am 3) (aF (am 4) bY))) ji) (bw (ab 2))))
noncomputable def b5:FM:=jf 2 3 ([2]++((([3]++([4]++[]))++[2])++[])) kG
theorem ki:ay ["web","run","stand","tie","truth"] ["web","run"] (aj cE):=⟨rfl,rfl,rfl,by decide+kernel,rfl,by decide+kernel,by decide+kernel⟩
theorem qj(h:dO K mg "stand_of_run" cE f fd ["web","run"])(T:cA mg)(z_stand_behind:Cl P w K mg base "stand_behind" di ["web","stand","tie","truth"] 2 4 bZ){g_FIRST_STAND:xM}(m_FIRST_STAND:mg "FIRST_STAND"=some (.ref g_FIRST_STAND))(c_FIRST_STAND:∀F,DA K F (.tuple [.tuple [],.tuple []]) (.ref g_FIRST_STAND)):aG P w K mg base ck 3 f fd ["web","run"] (eu K 2 b5):=by obtain⟨Qp,Qq,OI,Pw⟩:=z_stand_behind;have nd:=ki.nd;exact h.fn ki rfl rfl (λcdv A outer s H E hr=>(@af _ _ _ _ _ _ _ _ (@aS _ _ _ _ _ 2 _ _ nd rfl (Or.inl rfl) (@zR _ _ _ (V.ref g_FIRST_STAND) _ _ (PyData.tuple [.tuple [],.tuple []]) rfl m_FIRST_STAND rfl c_FIRST_STAND (by decide)) (by rfl) (by trivial)) (@af _ _ _ _ _ _ _ _ (@mD _ _ _ _ _ _ _ _ _ _ _ Tv rfl (@fP _ _ _ _ _ rfl (¬1)) (@jc _ _ _ _ _ _ _ _ rfl rfl (@bu _ _ _ _ _ _ _ _ (@aR _ _ _ 3 _ nd rfl (Or.inl rfl) (by trivial)) (@bu _ _ _ _ _ _ _ _ (@aR _ _ _ 4 _ nd rfl (Or.inl rfl) (by trivial)) (@gb _ _) (by rfl)) (by rfl)) (bM (bM ja)) (by rfl) (by rfl)) (@ar _ _ _ _ _ (@aS _ _ _ _ _ 2 _ _ nd rfl (Or.inl rfl) (@bP _ _ _ _ _ _ _ _ _ _ _ _ _ _ _ OI Pw (hr.mono (by decide)) ((¬0)∘((¬2)∘((¬3)∘((¬4)∘ac)))) (by rfl) (by decide) (by rfl) (by rfl)) (by rfl) (by trivial))) (by intro _;rfl)) (@ar _ _ _ _ _ (@aE _ _ _ _ _ (¬2))))))
noncomputable def mq:FS:=(aU (bx 2 (dG 2 jq (aa (ab 0) (aa (dG 2 b5 (aa (ab 0) (aa (ab 1) ah))) ah)))) (bw (zg (az (aA GY (aJ (g1 iT) (aa (ab 2) ah)) (vC (.int 0)))) (dG 1 cJ (aa (ab 2) ah)) (vC (.str ("none":Str))))))
noncomputable def ef:FM:=jf 2 1 ([2]++[]) mq
theorem pY:ay ["web","run","ties"] ["web","run"] (aj iO):=⟨rfl,rfl,rfl,by decide+kernel,rfl,by decide+kernel,by decide+kernel⟩
theorem xw(h:dO K mg "may_line" iO f fd ["web","run"])(T:cA mg)(z_asks_at:Cl P w K mg base "asks_at" jA ["web","stand"] 5 2 jq)(z_stand_of_run:Cl P w K mg base "stand_of_run" cE ["web","run"] 3 2 b5)(z_row_line:Cl P w K mg base "row_line" fU ["row"] 1 1 cJ):aG P w K mg base ck 6 f fd ["web","run"] (eu K 2 ef):=by obtain⟨QH,QI,Pc,Qe⟩:=z_asks_at;obtain⟨OR,OS,OA,OC⟩:=z_stand_of_run;obtain⟨P8,P9,OK,Pf⟩:=z_row_line;have nd:=pY.nd;exact h.fn pY rfl rfl (λcdv A outer s H E hr=>(@af _ _ _ _ _ _ _ _ (@aS _ _ _ _ _ 2 _ _ nd rfl (Or.inl rfl) (@bP _ _ _ _ _ _ _ _ _ _ _ _ _ _ _ Pc Qe (hr.mono (by decide)) ((¬0)∘((@bP _ _ _ _ _ _ _ _ _ _ _ _ _ _ _ OA OC (hr.mono (by decide)) ((¬0)∘((¬1)∘ac)) (by rfl) (by decide) (by rfl) (by rfl))∘ac)) (by rfl) (by decide) (by rfl) (by rfl)) (by rfl) (by trivial)) (@ar _ _ _ _ _ (@aE _ _ _ _ _ (@oh _ _ _ _ _ _ _ _ _ (@aQ _ _ _ _ _ _ _ _ _ (@BE _ _) (@a_ _ _ _ _ _ _ _ _ _ (@b_len _ _ rfl) (by rfl) T.b_len ((¬2)∘ac) (by decide) (by decide) (by rfl) (by rfl)) ae (aH _)) (@bP _ _ _ _ _ _ _ _ _ _ _ _ _ _ _ OK Pf (hr.mono (by decide)) ((¬2)∘ac) (by rfl) (by decide) (by rfl) (by rfl)) (@aC _ _ _ _ _))))))
noncomputable def kB:FS:=(aU (bx 2 (dG 1 fH (aa (ab 1) ah))) (bw (dG 1 cJ (aa (aA cP (zg (az (aA GY (aJ (g1 iT) (aa (ab 2) ah)) (vC (.int 0)))) (ab 2) (cN (aa (vC (.str ("none":Str))) ah))) (cN (aa (dG 2 eR (aa (ab 0) (aa (ab 1) ah))) ah))) ah))))
noncomputable def dg:FM:=jf 2 1 ([2]++[]) kB
theorem ox:ay ["web","run","kept"] ["web","run"] (aj gJ):=⟨rfl,rfl,rfl,by decide+kernel,rfl,by decide+kernel,by decide+kernel⟩
theorem vI(h:dO K mg "kept_line" gJ f fd ["web","run"])(T:cA mg)(z_kept_of:Cl P w K mg base "kept_of" iz ["run"] 1 1 fH)(z_row_line:Cl P w K mg base "row_line" fU ["row"] 1 1 cJ)(z_worth_kept:Cl P w K mg base "worth_kept" eZ ["web","run"] 2 2 eR):aG P w K mg base ck 3 f fd ["web","run"] (eu K 2 dg):=by obtain⟨Qc,Qd,OT,Po⟩:=z_kept_of;obtain⟨P8,P9,OK,Pf⟩:=z_row_line;obtain⟨Qu,Qv,OP,PL⟩:=z_worth_kept;have nd:=ox.nd;exact h.fn ox rfl rfl (λcdv A outer s H E hr=>(@af _ _ _ _ _ _ _ _ (@aS _ _ _ _ _ 2 _ _ nd rfl (Or.inl rfl) (@bP _ _ _ _ _ _ _ _ _ _ _ _ _ _ _ OT Po (hr.mono (by decide)) ((¬1)∘ac) (by rfl) (by decide) (by rfl) (by rfl)) (by rfl) (by trivial)) (@ar _ _ _ _ _ (@aE _ _ _ _ _ (@bP _ _ _ _ _ _ _ _ _ _ _ _ _ _ _ OK Pf (hr.mono (by decide)) ((@dJ _ _ _ _ _ _ _ rfl (@oh _ _ _ _ _ _ _ _ _ (@aQ _ _ _ _ _ _ _ _ _ (@BE _ _) (@a_ _ _ _ _ _ _ _ _ _ (@b_len _ _ rfl) (by rfl) T.b_len ((¬2)∘ac) (by decide) (by decide) (by rfl) (by rfl)) ae (aH _)) (¬2) (@bH _ _ _ _ _ _ ((@aC _ _ _ _ _)∘ac))) (@bH _ _ _ _ _ _ ((@bP _ _ _ _ _ _ _ _ _ _ _ _ _ _ _ OP PL (hr.mono (by decide)) ((¬0)∘((¬1)∘ac)) (by rfl) (by decide) (by rfl) (by rfl))∘ac)))∘ac) (by rfl) (by decide) (by rfl) (by rfl))))))
noncomputable def mP:FS:=(aU (bx 2 (aA k9 (ab 1) (vC (.str (" ":Str))))) (aU (jx (tF (az (aA (bc true) (aJ (g1 iT) (aa (ab 2) ah)) (vC (.int 2)))) (az (aA (bc true) (aA dI (ab 2) (vC (.int 0))) (vC (.str ("ask":Str)))))) (bw (vC .none)) cY) (aU (bx 3 (dG 1 gF (aa (aA dI (ab 2) (vC (.int 1))) ah))) (bw (zg (mK (az (aA mx (ab 3) (vC .none))) (az (aA G0 (ab 3) (aJ (g1 iT) (aa (aA dI (ab 0) (vC (.int 1))) ah))))) (ab 3) (vC .none))))))
noncomputable def eQ:FM:=jf 2 2 ([2]++(([]++[])++([3]++[]))) mP
theorem me:ay ["web","line","words","tie"] ["web","line"] (aj eY):=⟨rfl,rfl,rfl,by decide+kernel,rfl,by decide+kernel,by decide+kernel⟩
theorem s_(h:dO K mg "tie_to_ask" eY f fd ["web","line"])(T:cA mg)(z_number_of:Cl P w K mg base "number_of" gL ["word"] 1 1 gF):aG P w K mg base ck 2 f fd ["web","line"] (eu K 2 eQ):=by obtain⟨QC,QD,OY,P0⟩:=z_number_of;have nd:=me.nd;exact h.fn me rfl rfl (λcdv A outer s H E hr=>(@af _ _ _ _ _ _ _ _ (@aS _ _ _ _ _ 2 _ _ nd rfl (Or.inl rfl) (@FX _ _ _ _ _ _ _ _ (¬1) (@aC _ _ _ _ _) (by rfl) (by rfl) (by rfl) (by rfl) (by rfl)) (by rfl) (by trivial)) (@af _ _ _ _ _ _ _ _ (@cL _ _ _ _ _ _ _ _ _ _ _ (@rP _ _ _ _ (@pU _ _ _ _ _ _ _ _ (@aQ _ _ _ _ _ _ _ _ _ (@ym _ _ _ rfl hr) (@a_ _ _ _ _ _ _ _ _ _ (@b_len _ _ rfl) (by rfl) T.b_len ((¬2)∘ac) (by decide) (by decide) (by rfl) (by rfl)) ae (aH _)) (@lm _ _ _ _ _ (@aQ _ _ _ _ _ _ _ _ _ (@ym _ _ _ rfl hr) (@cu _ _ _ _ _ _ _ rfl (¬2) ae (λ_ _=>rfl)) (@aC _ _ _ _ _) (aH _))))) (@ar _ _ _ _ _ (@aE _ _ _ _ _ (@gP _ _ _ _))) (@bh _ _)) (@af _ _ _ _ _ _ _ _ (@aS _ _ _ _ _ 3 _ _ nd rfl (Or.inl rfl) (@bP _ _ _ _ _ _ _ _ _ _ _ _ _ _ _ OY P0 (hr.mono (by decide)) ((@cu _ _ _ _ _ _ _ rfl (¬2) ae (λ_ _=>rfl))∘ac) (by rfl) (by decide) (by rfl) (by rfl)) (by rfl) (by trivial)) (@ar _ _ _ _ _ (@aE _ _ _ _ _ (@oh _ _ _ _ _ _ _ _ _ (@rP _ _ _ _ (@yW _ _ _ _ _ _ _ _ (@aQ _ _ _ _ _ _ _ _ _ (@uV _ _) (¬3) (@gP _ _ _ _) (aH _)) (@vX _ _ _ _ _ (@aQ _ _ _ _ _ _ _ _ _ (@Ew _ _) (¬3) (@a_ _ _ _ _ _ _ _ _ _ (@b_len _ _ rfl) (by rfl) T.b_len ((@cu _ _ _ _ _ _ _ rfl (¬0) ae (λ_ _=>rfl))∘ac) (by decide) (by decide) (by rfl) (by rfl)) (aH _))))) (¬3) (@gP _ _ _ _))))))))
noncomputable def zu:FS:=(aU (bx 2 (aA bK (aA cP (aA cP (aA qV (aA bK (ab 0) (vC (.int 2147483647))) (vC (.int 48271))) (aA qV (aA qV (vC (.int 7919)) (ab 1)) (ab 1))) (vC (.int 104729))) (vC (.int 2147483647)))) (bw (aA bK (aA qV (ab 2) (ab 2)) (vC (.int 2147483629)))))
noncomputable def lL:FM:=jf 2 1 ([2]++[]) zu
theorem xR:ay ["_law_cell","_law_k","_law_number"] ["_law_cell","_law_k"] (aj om):=⟨rfl,rfl,rfl,by decide+kernel,rfl,by decide+kernel,by decide+kernel⟩
theorem CJ(h:dO K mg "_law_mixed" om f fd ["_law_cell","_law_k"])(T:cA mg):aG P w K mg base ck 1 f fd ["_law_cell","_law_k"] (eu K 2 lL):=by have nd:=xR.nd;exact h.fn xR rfl rfl (λcdv A outer s H E hr=>(@af _ _ _ _ _ _ _ _ (@aS _ _ _ _ _ 2 _ _ nd rfl (Or.inl rfl) (@bG _ _ _ _ _ _ _ (@dJ _ _ _ _ _ _ _ rfl (@dJ _ _ _ _ _ _ _ rfl (@uk _ _ _ _ _ _ _ rfl (@bG _ _ _ _ _ _ _ (¬0) ae) ae) (@uk _ _ _ _ _ _ _ rfl (@uk _ _ _ _ _ _ _ rfl ae (¬1)) (¬1))) ae) ae) (by rfl) (by trivial)) (@ar _ _ _ _ _ (@aE _ _ _ _ _ (@bG _ _ _ _ _ _ _ (@uk _ _ _ _ _ _ _ rfl (¬2) (¬2)) ae)))))
noncomputable def ip:FT:=(mK (az (aA GX (ab 3) (aA yy (vC (.int 10)) (vC (.int 18))))) (az (aA G0 (aJ (g1 iT) (aa (ab 1) ah)) (vC (.int 900)))))
noncomputable def lB:FS:=(aU (eV (cx bR (ab 1) (aa (aA bK (ab 3) (vC (.int 2147483629))) ah))) (bx 3 (aA iF (ab 3) (vC (.int 2147483629)))))
noncomputable def lG:FI:=(eP (aa (vC (.int 12)) ah))
noncomputable def jg:FS:=(eV (cx bR (ab 1) (aa (dG 2 lL (aa (dG 2 lL (aa (ab 3) (aa (aA cP (aA qV (vC (.int 3)) (ab 4)) (vC (.int 1))) ah))) (aa (aA cP (aA cP (ab 4) (ab 2)) (vC (.int 2))) ah))) ah)))
noncomputable def oT:FI:=(eP (aa (aJ (g2 BY) (aa (aJ (g1 iT) (aa (ab 0) ah)) (aa (vC (.int 63)) ah))) ah))
noncomputable def ik:FS:=(aU (bx 3 (aJ (g1 AD) (aa (aA dI (ab 0) (ab 2)) ah))) (aU (jx (az (aA G0 (ab 3) (aA yy (vC (.int 10)) (vC (.int 18))))) (jd ([4]++[]) lG (am 4) jg) cY) (aU (rY (2^4200) ip lB) (jx (az (aA GX (ab 3) (vC (.int 2147483629)))) (eV (cx bR (ab 1) (aa (aA bK (ab 3) (vC (.int 2147483629))) ah))) cY))))
noncomputable def zt:FS:=(aU (bx 1 (dq ah)) (aU (jd ([2]++([3]++((([4]++[])++[])++(([]++[3])++([]++[]))))) oT (am 2) ik) (bw (ab 1))))
noncomputable def lK:FM:=jf 1 4 ([1]++(([2]++([3]++((([4]++[])++[])++(([]++[3])++([]++[])))))++[])) zt
theorem xQ:ay ["_law_script","_law_drawn","_law_k","_law_cell","_law_j"] ["_law_script"] (aj ol):=⟨rfl,rfl,rfl,by decide+kernel,rfl,by decide+kernel,by decide+kernel⟩
theorem CH(h:dO K mg "_law_draws" ol f fd ["_law_script"])(T:cA mg)(zLmixed:Cl P w K mg base "_law_mixed" om ["_law_cell","_law_k"] 1 2 lL):aG P w K mg base ck 2 f fd ["_law_script"] (eu K 1 lK):=by obtain⟨QT,QU,Pr,Qf⟩:=zLmixed;have nd:=xQ.nd;exact h.fn xQ rfl rfl (λcdv A outer s H E hr=>(@af _ _ _ _ _ _ _ _ (@aS _ _ _ _ _ 1 _ _ nd rfl (Or.inl rfl) (@cC _ _ _ _ _ ac) (by rfl) (by trivial)) (@af _ _ _ _ _ _ _ _ (@mD _ _ _ _ _ _ _ _ _ _ _ Tv rfl (@fN _ _ _ _ _ _ _ rfl T.b_range ((@a_ _ _ _ _ _ _ _ _ _ (@b_min _ _ rfl) (by rfl) T.b_min ((@a_ _ _ _ _ _ _ _ _ _ (@b_len _ _ rfl) (by rfl) T.b_len ((¬0)∘ac) (by decide) (by decide) (by rfl) (by rfl))∘(ae∘ac)) (by decide) (by decide) (by rfl) (by rfl))∘ac) (by rfl)) (@aR _ _ _ 2 _ nd rfl (Or.inl rfl) (by trivial)) (@af _ _ _ _ _ _ _ _ (@aS _ _ _ _ _ 3 _ _ nd rfl (Or.inl rfl) (@a_ _ _ _ _ _ _ _ _ _ (@b_abs _ _) (by rfl) T.b_abs ((@cu _ _ _ _ _ _ _ rfl (¬0) (¬2) (λ_ _=>rfl))∘ac) (by decide) (by decide) (by rfl) (by rfl)) (by rfl) (by trivial)) (@af _ _ _ _ _ _ _ _ (@cL _ _ _ _ _ _ _ _ _ _ _ (@aQ _ _ _ _ _ _ _ _ _ (@Ew _ _) (¬3) (@Hb _ _ _ _ _ _ _ ae ae) (aH _)) (@ar _ _ _ _ _ (@mD _ _ _ _ _ _ _ _ _ _ _ Tv rfl (@fN _ _ _ _ _ _ _ rfl T.b_range (ae∘ac) (by rfl)) (@aR _ _ _ 4 _ nd rfl (Or.inl rfl) (by trivial)) (@ar _ _ _ _ _ (@ij _ _ _ _ _ (@iJ _ _ _ _ _ _ _ _ _ rfl (¬1) ((@bP _ _ _ _ _ _ _ _ _ _ _ _ _ _ _ Pr Qf (hr.mono (by decide)) ((@bP _ _ _ _ _ _ _ _ _ _ _ _ _ _ _ Pr Qf (hr.mono (by decide)) ((¬3)∘((@dJ _ _ _ _ _ _ _ rfl (@uk _ _ _ _ _ _ _ rfl ae (¬4)) ae)∘ac)) (by rfl) (by decide) (by rfl) (by rfl))∘((@dJ _ _ _ _ _ _ _ rfl (@dJ _ _ _ _ _ _ _ rfl (¬4) (¬2)) ae)∘ac)) (by rfl) (by decide) (by rfl) (by rfl))∘ac) (by rfl) (by rfl) (by rfl) (by rfl) (by rfl)) (by rfl))) (by intro _;rfl))) (@bh _ _)) (@af _ _ _ _ _ _ _ _ (@xG _ _ _ _ _ _ _ _ _ Tv (@rP _ _ _ _ (@yW _ _ _ _ _ _ _ _ (@aQ _ _ _ _ _ _ _ _ _ (@BD _ _) (¬3) (@Hb _ _ _ _ _ _ _ ae ae) (aH _)) (@vX _ _ _ _ _ (@aQ _ _ _ _ _ _ _ _ _ (@Ew _ _) (@a_ _ _ _ _ _ _ _ _ _ (@b_len _ _ rfl) (by rfl) T.b_len ((¬1)∘ac) (by decide) (by decide) (by rfl) (by rfl)) ae (aH _))))) (@af _ _ _ _ _ _ _ _ (@ij _ _ _ _ _ (@iJ _ _ _ _ _ _ _ _ _ rfl (¬1) ((@bG _ _ _ _ _ _ _ (¬3) ae)∘ac) (by rfl) (by rfl) (by rfl) (by rfl) (by rfl)) (by rfl)) (@ar _ _ _ _ _ (@aS _ _ _ _ _ 3 _ _ nd rfl (Or.inl rfl) (@lh _ _ _ _ _ _ _ (¬3) ae) (by rfl) (by trivial))))) (@ar _ _ _ _ _ (@cL _ _ _ _ _ _ _ _ _ _ _ (@aQ _ _ _ _ _ _ _ _ _ (@BD _ _) (¬3) ae (aH _)) (@ar _ _ _ _ _ (@ij _ _ _ _ _ (@iJ _ _ _ _ _ _ _ _ _ rfl (¬1) ((@bG _ _ _ _ _ _ _ (¬3) ae)∘ac) (by rfl) (by rfl) (by rfl) (by rfl) (by rfl)) (by rfl))) (@bh _ _)))))) (by intro _;rfl)) (@ar _ _ _ _ _ (@aE _ _ _ _ _ (¬1))))))
noncomputable def yl:FS:=(aU (jx (az (aA (bc false) (ab 0) (dq ah))) (bw (vC (.int 0))) cY) (bw (cx fF (ab 0) (aa (vC (.int 0)) ah))))
noncomputable def bO:FM:=jf 1 0 (([]++[])++[]) yl
theorem Ac:ay ["_law_drawn"] ["_law_drawn"] (aj lu):=⟨rfl,rfl,rfl,by decide+kernel,rfl,by decide+kernel,by decide+kernel⟩
theorem Ff(h:dO K mg "_law_next" lu f fd ["_law_drawn"])(T:cA mg):aG P w K mg base ck 1 f fd ["_law_drawn"] (eu K 1 bO):=by have nd:=Ac.nd;exact h.fn Ac rfl rfl (λcdv A outer s H E hr=>(@af _ _ _ _ _ _ _ _ (@cL _ _ _ _ _ _ _ _ _ _ _ (@aQ _ _ _ _ _ _ _ _ _ (@iS _ _ _ rfl hr) (¬0) (@cC _ _ _ _ _ ac) (aH _)) (@ar _ _ _ _ _ (@aE _ _ _ _ _ ae)) (@bh _ _)) (@ar _ _ _ _ _ (@aE _ _ _ _ _ (@FW _ _ _ _ _ _ _ _ _ rfl (¬0) (ae∘ac) (by rfl) (by rfl) (by rfl) (by rfl) (by rfl))))))
noncomputable def mT:FT:=(az (aA (bc true) (ab 1) (vC (.int 0))))
noncomputable def qo:FS:=(qk 0 1 (aa (ab 1) (aa (aA bK (ab 0) (ab 1)) ah)))
noncomputable def GP:FS:=(aU (rY (2^4200) mT qo) (bw (aJ (g1 AD) (aa (ab 0) ah))))
noncomputable def xj:FM:=jf 2 0 ([0,1]++[]) GP
theorem DM:ay ["_law_one","_law_other"] ["_law_one","_law_other"] (aj xK):=⟨rfl,rfl,rfl,by decide+kernel,rfl,by decide+kernel,by decide+kernel⟩
theorem IY(h:dO K mg "_law_gcd" xK f fd ["_law_one","_law_other"])(T:cA mg):aG P w K mg base ck 1 f fd ["_law_one","_law_other"] (eu K 2 xj):=by have nd:=DM.nd;exact h.fn DM rfl rfl (λcdv A outer s H E hr=>(@af _ _ _ _ _ _ _ _ (@xG _ _ _ _ _ _ _ _ _ Tv (@aQ _ _ _ _ _ _ _ _ _ (@ym _ _ _ rfl hr) (¬1) ae (aH _)) (@ar _ _ _ _ _ (@JD _ _ _ _ _ 0 1 _ _ _ _ _ _ _ _ _ rfl nd rfl rfl (by decide) rfl rfl ((¬1)∘((@bG _ _ _ _ _ _ _ (¬0) (¬1))∘ac)) (by rfl) (by rfl)))) (@ar _ _ _ _ _ (@aE _ _ _ _ _ (@a_ _ _ _ _ _ _ _ _ _ (@b_abs _ _) (by rfl) T.b_abs ((¬0)∘ac) (by decide) (by decide) (by rfl) (by rfl))))))
noncomputable def GQ:FS:=(aU (bx 2 (dG 2 xj (aa (ab 0) (aa (ab 1) ah)))) (bw (cN (aa (aA iF (ab 0) (ab 2)) (aa (aA iF (ab 1) (ab 2)) ah)))))
noncomputable def ue:FM:=jf 2 1 ([2]++[]) GQ
theorem DN:ay ["_law_top","_law_bottom","_law_common"] ["_law_top","_law_bottom"] (aj xN):=⟨rfl,rfl,rfl,by decide+kernel,rfl,by decide+kernel,by decide+kernel⟩
theorem IZ(h:dO K mg "_law_low" xN f fd ["_law_top","_law_bottom"])(T:cA mg)(zLgcd:Cl P w K mg base "_law_gcd" xK ["_law_one","_law_other"] 1 2 xj):aG P w K mg base ck 2 f fd ["_law_top","_law_bottom"] (eu K 2 ue):=by obtain⟨Q2,Q3,Qr,QV⟩:=zLgcd;have nd:=DN.nd;exact h.fn DN rfl rfl (λcdv A outer s H E hr=>(@af _ _ _ _ _ _ _ _ (@aS _ _ _ _ _ 2 _ _ nd rfl (Or.inl rfl) (@bP _ _ _ _ _ _ _ _ _ _ _ _ _ _ _ Qr QV (hr.mono (by decide)) ((¬0)∘((¬1)∘ac)) (by rfl) (by decide) (by rfl) (by rfl)) (by rfl) (by trivial)) (@ar _ _ _ _ _ (@aE _ _ _ _ _ (@bH _ _ _ _ _ _ ((@lh _ _ _ _ _ _ _ (¬0) (¬2))∘((@lh _ _ _ _ _ _ _ (¬1) (¬2))∘ac)))))))
noncomputable def kz:FS:=(aU (jx (az (aA (bc false) (ab 1) (vC (.int 0)))) (bw (aA dI (dq (aa (cN (aa (vC (.int 1)) (aa (vC (.int 2)) ah))) (aa (cN (aa (vC (.int 1)) (aa (vC (.int 3)) ah))) (aa (cN (aa (vC (.int 2)) (aa (vC (.int 3)) ah))) (aa (cN (aa (vC (.int 1)) (aa (vC (.int 1)) ah))) (aa (cN (aa (vC (.int 0)) (aa (vC (.int 1)) ah))) (aa (cN (aa (vC (.int 3)) (aa (vC (.int 4)) ah))) ah))))))) (aA bK (ab 0) (vC (.int 6))))) cY) (aU (jx (az (aA (bc false) (ab 1) (vC (.int 1)))) (aU (bx 2 (aA cP (vC (.int 2)) (aA bK (ab 0) (vC (.int 9))))) (bw (dG 2 ue (aa (aA cP (vC (.int 1)) (aA bK (aA iF (ab 0) (vC (.int 9))) (aA oS (ab 2) (vC (.int 1))))) (aa (ab 2) ah))))) cY) (aU (jx (az (aA (bc false) (ab 1) (vC (.int 2)))) (aU (bx 2 (aA cP (vC (.int 1)) (aA bK (ab 0) (vC (.int 100))))) (bw (dG 2 ue (aa (aA bK (aA iF (ab 0) (vC (.int 100))) (aA cP (ab 2) (vC (.int 1)))) (aa (ab 2) ah))))) cY) (bw (cN (aa (vC (.int 1)) (aa (vC (.int 1)) ah)))))))
noncomputable def gD:FM:=jf 2 1 (([]++[])++((([2]++[])++[])++((([2]++[])++[])++[]))) kz
theorem ut:ay ["_law_number","_law_kind","_law_bottom"] ["_law_number","_law_kind"] (aj lr):=⟨rfl,rfl,rfl,by decide+kernel,rfl,by decide+kernel,by decide+kernel⟩
theorem AU(h:dO K mg "_law_chance" lr f fd ["_law_number","_law_kind"])(T:cA mg)(zLlow:Cl P w K mg base "_law_low" xN ["_law_top","_law_bottom"] 2 2 ue):aG P w K mg base ck 3 f fd ["_law_number","_law_kind"] (eu K 2 gD):=by obtain⟨Q4,Q5,Qg,QJ⟩:=zLlow;have nd:=ut.nd;exact h.fn ut rfl rfl (λcdv A outer s H E hr=>(@af _ _ _ _ _ _ _ _ (@cL _ _ _ _ _ _ _ _ _ _ _ (@aQ _ _ _ _ _ _ _ _ _ (@iS _ _ _ rfl hr) (¬1) ae (aH _)) (@ar _ _ _ _ _ (@aE _ _ _ _ _ (@cu _ _ _ _ _ _ _ rfl (@cC _ _ _ _ _ ((@bH _ _ _ _ _ _ (ae∘(ae∘ac)))∘((@bH _ _ _ _ _ _ (ae∘(ae∘ac)))∘((@bH _ _ _ _ _ _ (ae∘(ae∘ac)))∘((@bH _ _ _ _ _ _ (ae∘(ae∘ac)))∘((@bH _ _ _ _ _ _ (ae∘(ae∘ac)))∘((@bH _ _ _ _ _ _ (ae∘(ae∘ac)))∘ac))))))) (@bG _ _ _ _ _ _ _ (¬0) ae) (λ_ _=>rfl)))) (@bh _ _)) (@af _ _ _ _ _ _ _ _ (@cL _ _ _ _ _ _ _ _ _ _ _ (@aQ _ _ _ _ _ _ _ _ _ (@iS _ _ _ rfl hr) (¬1) ae (aH _)) (@af _ _ _ _ _ _ _ _ (@aS _ _ _ _ _ 2 _ _ nd rfl (Or.inl rfl) (@dJ _ _ _ _ _ _ _ rfl ae (@bG _ _ _ _ _ _ _ (¬0) ae)) (by rfl) (by trivial)) (@ar _ _ _ _ _ (@aE _ _ _ _ _ (@bP _ _ _ _ _ _ _ _ _ _ _ _ _ _ _ Qg QJ (hr.mono (by decide)) ((@dJ _ _ _ _ _ _ _ rfl ae (@bG _ _ _ _ _ _ _ (@lh _ _ _ _ _ _ _ (¬0) ae) (@De _ _ _ _ _ _ _ (¬2) ae)))∘((¬2)∘ac)) (by rfl) (by decide) (by rfl) (by rfl))))) (@bh _ _)) (@af _ _ _ _ _ _ _ _ (@cL _ _ _ _ _ _ _ _ _ _ _ (@aQ _ _ _ _ _ _ _ _ _ (@iS _ _ _ rfl hr) (¬1) ae (aH _)) (@af _ _ _ _ _ _ _ _ (@aS _ _ _ _ _ 2 _ _ nd rfl (Or.inl rfl) (@dJ _ _ _ _ _ _ _ rfl ae (@bG _ _ _ _ _ _ _ (¬0) ae)) (by rfl) (by trivial)) (@ar _ _ _ _ _ (@aE _ _ _ _ _ (@bP _ _ _ _ _ _ _ _ _ _ _ _ _ _ _ Qg QJ (hr.mono (by decide)) ((@bG _ _ _ _ _ _ _ (@lh _ _ _ _ _ _ _ (¬0) ae) (@dJ _ _ _ _ _ _ _ rfl (¬2) ae))∘((¬2)∘ac)) (by rfl) (by decide) (by rfl) (by rfl))))) (@bh _ _)) (@ar _ _ _ _ _ (@aE _ _ _ _ _ (@bH _ _ _ _ _ _ (ae∘(ae∘ac)))))))))
noncomputable def zv:FS:=(bw (aA dI (dq (aa (aA bK (ab 0) (vC (.int 7))) (aa (aA cP (vC (.int 5)) (aA bK (ab 0) (vC (.int 2)))) (aa (aA bK (ab 0) (vC (.int 1001))) (aa (aA oS (vC (.int 1000)) (aA bK (ab 0) (vC (.int 3)))) ah))))) (aA bK (ab 1) (vC (.int 4)))))
noncomputable def nK:FM:=jf 2 0 [] zv
theorem xT:ay ["_law_number","_law_kind"] ["_law_number","_law_kind"] (aj oq):=⟨rfl,rfl,rfl,by decide+kernel,rfl,by decide+kernel,by decide+kernel⟩
theorem CK(h:dO K mg "_law_worth" oq f fd ["_law_number","_law_kind"])(T:cA mg):aG P w K mg base ck 1 f fd ["_law_number","_law_kind"] (eu K 2 nK):=by have nd:=xT.nd;exact h.fn xT rfl rfl (λcdv A outer s H E hr=>(@ar _ _ _ _ _ (@aE _ _ _ _ _ (@cu _ _ _ _ _ _ _ rfl (@cC _ _ _ _ _ ((@bG _ _ _ _ _ _ _ (¬0) ae)∘((@dJ _ _ _ _ _ _ _ rfl ae (@bG _ _ _ _ _ _ _ (¬0) ae))∘((@bG _ _ _ _ _ _ _ (¬0) ae)∘((@De _ _ _ _ _ _ _ ae (@bG _ _ _ _ _ _ _ (¬0) ae))∘ac))))) (@bG _ _ _ _ _ _ _ (¬1) ae) (λ_ _=>rfl)))))
noncomputable def qY:FI:=(eP (aa (ab 2) ah))
noncomputable def jh:FS:=(aU (bx 8 (dG 1 bO (aa (ab 0) ah))) (aU (bx 9 (aA dI (dq (aa (aA bK (ab 8) (ab 1)) (aa (vC (.int 0)) (aa (aA bK (ab 7) (ab 1)) (aa (aA bK (ab 8) (ab 1)) (aa (aA bK (ab 8) (vC (.int 2))) (aa (aA bK (ab 8) (ab 1)) ah))))))) (ab 3))) (aU (bx 10 (aA bK (aA cP (aA cP (ab 9) (vC (.int 1))) (aA bK (aA iF (ab 8) (vC (.int 12))) (aA oS (ab 1) (vC (.int 1))))) (ab 1))) (aU (jx (az (aA (bc false) (ab 3) (vC (.int 4)))) (lW (cN (aa (vC (.int 0)) (aa (vC (.int 1)) ah))) (cf (aF (am 9) (aF (am 10) bY)))) cY) (aU (bx 11 (dG 1 bO (aa (ab 0) ah))) (aU (bx 12 (cN (aa (aJ (g2 BY) (aa (ab 9) (aa (ab 10) ah))) (aa (aJ (g2 AH) (aa (ab 9) (aa (ab 10) ah))) ah)))) (eV (cx bR (ab 6) (aa (aA cP (ab 12) (cN (aa (dG 2 gD (aa (ab 11) (aa (ab 4) ah))) (aa (dG 2 nK (aa (aA iF (ab 11) (vC (.int 10007))) (aa (ab 5) ah))) ah)))) ah)))))))))
noncomputable def By:FS:=(aU (bx 3 (aA bK (dG 1 bO (aa (ab 0) ah)) (vC (.int 6)))) (aU (bx 4 (aA bK (dG 1 bO (aa (ab 0) ah)) (vC (.int 4)))) (aU (bx 5 (aA bK (dG 1 bO (aa (ab 0) ah)) (vC (.int 4)))) (aU (bx 6 (dq ah)) (aU (jd ([7]++([8]++([9]++([10]++((([9]++([10]++[]))++[])++([11]++([12]++[]))))))) qY (am 7) jh) (bw (aJ (g1 eL) (aa (ab 6) ah))))))))
noncomputable def rk:FM:=jf 3 10 ([3]++([4]++([5]++([6]++(([7]++([8]++([9]++([10]++((([9]++([10]++[]))++[])++([11]++([12]++[])))))))++[]))))) By
theorem Ad:ay ["_law_drawn","_law_things","_law_many","_law_shape","_law_odds","_law_worths","_law_found","_law_k","_law_number","_law_one","_law_other","_law_cell","_law_ends"] ["_law_drawn","_law_things","_law_many"] (aj rX):=⟨rfl,rfl,rfl,by decide+kernel,rfl,by decide+kernel,by decide+kernel⟩
theorem Fg(h:dO K mg "_law_ties" rX f fd ["_law_drawn","_law_things","_law_many"])(T:cA mg)(zLnext:Cl P w K mg base "_law_next" lu ["_law_drawn"] 1 1 bO)(zLchance:Cl P w K mg base "_law_chance" lr ["_law_number","_law_kind"] 3 2 gD)(zLworth:Cl P w K mg base "_law_worth" oq ["_law_number","_law_kind"] 1 2 nK):aG P w K mg base ck 4 f fd ["_law_drawn","_law_things","_law_many"] (eu K 3 rk):=by obtain⟨PM,PN,OE,OF⟩:=zLnext;obtain⟨QP,QQ,Pk,Qs⟩:=zLchance;obtain⟨QW,QX,PF,QE⟩:=zLworth;have nd:=Ad.nd;exact h.fn Ad rfl rfl (λcdv A outer s H E hr=>(@af _ _ _ _ _ _ _ _ (@aS _ _ _ _ _ 3 _ _ nd rfl (Or.inl rfl) (@bG _ _ _ _ _ _ _ (@bP _ _ _ _ _ _ _ _ _ _ _ _ _ _ _ OE OF (hr.mono (by decide)) ((¬0)∘ac) (by rfl) (by decide) (by rfl) (by rfl)) ae) (by rfl) (by trivial)) (@af _ _ _ _ _ _ _ _ (@aS _ _ _ _ _ 4 _ _ nd rfl (Or.inl rfl) (@bG _ _ _ _ _ _ _ (@bP _ _ _ _ _ _ _ _ _ _ _ _ _ _ _ OE OF (hr.mono (by decide)) ((¬0)∘ac) (by rfl) (by decide) (by rfl) (by rfl)) ae) (by rfl) (by trivial)) (@af _ _ _ _ _ _ _ _ (@aS _ _ _ _ _ 5 _ _ nd rfl (Or.inl rfl) (@bG _ _ _ _ _ _ _ (@bP _ _ _ _ _ _ _ _ _ _ _ _ _ _ _ OE OF (hr.mono (by decide)) ((¬0)∘ac) (by rfl) (by decide) (by rfl) (by rfl)) ae) (by rfl) (by trivial)) (@af _ _ _ _ _ _ _ _ (@aS _ _ _ _ _ 6 _ _ nd rfl (Or.inl rfl) (@cC _ _ _ _ _ ac) (by rfl) (by trivial)) (@af _ _ _ _ _ _ _ _ (@mD _ _ _ _ _ _ _ _ _ _ _ Tv rfl (@fN _ _ _ _ _ _ _ rfl T.b_range ((¬2)∘ac) (by rfl)) (@aR _ _ _ 7 _ nd rfl (Or.inl rfl) (by trivial)) (@af _ _ _ _ _ _ _ _ (@aS _ _ _ _ _ 8 _ _ nd rfl (Or.inl rfl) (@bP _ _ _ _ _ _ _ _ _ _ _ _ _ _ _ OE OF (hr.mono (by decide)) ((¬0)∘ac) (by rfl) (by decide) (by rfl) (by rfl)) (by rfl) (by trivial)) (@af _ _ _ _ _ _ _ _ (@aS _ _ _ _ _ 9 _ _ nd rfl (Or.inl rfl) (@cu _ _ _ _ _ _ _ rfl (@cC _ _ _ _ _ ((@bG _ _ _ _ _ _ _ (¬8) (¬1))∘(ae∘((@bG _ _ _ _ _ _ _ (¬7) (¬1))∘((@bG _ _ _ _ _ _ _ (¬8) (¬1))∘((@bG _ _ _ _ _ _ _ (¬8) ae)∘((@bG _ _ _ _ _ _ _ (¬8) (¬1))∘ac))))))) (¬3) (λ_ _=>rfl)) (by rfl) (by trivial)) (@af _ _ _ _ _ _ _ _ (@aS _ _ _ _ _ 10 _ _ nd rfl (Or.inl rfl) (@bG _ _ _ _ _ _ _ (@dJ _ _ _ _ _ _ _ rfl (@dJ _ _ _ _ _ _ _ rfl (¬9) ae) (@bG _ _ _ _ _ _ _ (@lh _ _ _ _ _ _ _ (¬8) ae) (@De _ _ _ _ _ _ _ (¬1) ae))) (¬1)) (by rfl) (by trivial)) (@af _ _ _ _ _ _ _ _ (@cL _ _ _ _ _ _ _ _ _ _ _ (@aQ _ _ _ _ _ _ _ _ _ (@iS _ _ _ rfl hr) (¬3) ae (aH _)) (@ar _ _ _ _ _ (@rO _ _ _ _ _ _ _ _ (@bH _ _ _ _ _ _ (ae∘(ae∘ac))) (@jc _ _ _ _ _ _ _ _ rfl rfl (@bu _ _ _ _ _ _ _ _ (@aR _ _ _ 9 _ nd rfl (Or.inl rfl) (by trivial)) (@bu _ _ _ _ _ _ _ _ (@aR _ _ _ 10 _ nd rfl (Or.inl rfl) (by trivial)) (@gb _ _) (by rfl)) (by rfl)) (bM (bM ja)) (by rfl) (by rfl)) (by rfl) (by rfl) (by rfl))) (@bh _ _)) (@af _ _ _ _ _ _ _ _ (@aS _ _ _ _ _ 11 _ _ nd rfl (Or.inl rfl) (@bP _ _ _ _ _ _ _ _ _ _ _ _ _ _ _ OE OF (hr.mono (by decide)) ((¬0)∘ac) (by rfl) (by decide) (by rfl) (by rfl)) (by rfl) (by trivial)) (@af _ _ _ _ _ _ _ _ (@aS _ _ _ _ _ 12 _ _ nd rfl (Or.inl rfl) (@bH _ _ _ _ _ _ ((@a_ _ _ _ _ _ _ _ _ _ (@b_min _ _ rfl) (by rfl) T.b_min ((¬9)∘((¬10)∘ac)) (by decide) (by decide) (by rfl) (by rfl))∘((@a_ _ _ _ _ _ _ _ _ _ (@b_max _ _ rfl) (by rfl) T.b_max ((¬9)∘((¬10)∘ac)) (by decide) (by decide) (by rfl) (by rfl))∘ac))) (by rfl) (by trivial)) (@ar _ _ _ _ _ (@ij _ _ _ _ _ (@iJ _ _ _ _ _ _ _ _ _ rfl (¬6) ((@dJ _ _ _ _ _ _ _ rfl (¬12) (@bH _ _ _ _ _ _ ((@bP _ _ _ _ _ _ _ _ _ _ _ _ _ _ _ Pk Qs (hr.mono (by decide)) ((¬11)∘((¬4)∘ac)) (by rfl) (by decide) (by rfl) (by rfl))∘((@bP _ _ _ _ _ _ _ _ _ _ _ _ _ _ _ PF QE (hr.mono (by decide)) ((@lh _ _ _ _ _ _ _ (¬11) ae)∘((¬5)∘ac)) (by rfl) (by decide) (by rfl) (by rfl))∘ac))))∘ac) (by rfl) (by rfl) (by rfl) (by rfl) (by rfl)) (by rfl))))))))) (by intro _;rfl)) (@ar _ _ _ _ _ (@aE _ _ _ _ _ (@a_ _ _ _ _ _ _ _ _ _ (@b_tuple _ _ rfl) (by rfl) T.b_tuple ((¬6)∘ac) (by decide) (by decide) (by rfl) (by rfl))))))))))
noncomputable def vh:FI:=(eP (aa (ab 3) ah))
noncomputable def qp:FS:=(eV (cx bR (ab 7) (aa (aA dI (dq (aa (vC (.int 20)) (aa (aA cP (vC (.int 1)) (aA bK (dG 1 bO (aa (ab 0) ah)) (vC (.int 3)))) (aa (aA bK (dG 1 bO (aa (ab 0) ah)) (vC (.int 21))) ah)))) (ab 6)) ah)))
noncomputable def GR:FS:=(aU (bx 3 (aA bK (dG 1 bO (aa (ab 0) ah)) (aA cP (ab 1) (vC (.int 1))))) (aU (bx 4 (aA qV (aA bK (dG 1 bO (aa (ab 0) ah)) (aA cP (ab 2) (vC (.int 1)))) (aJ (g1 yx) (aa (aA GY (ab 3) (vC (.int 1))) ah)))) (aU (bx 5 (dG 3 rk (aa (ab 0) (aa (aJ (g2 AH) (aa (vC (.int 2)) (aa (ab 3) ah))) (aa (ab 4) ah))))) (aU (bx 6 (aA bK (dG 1 bO (aa (ab 0) ah)) (vC (.int 3)))) (aU (bx 7 (dq ah)) (aU (jd ([8]++[]) vh (am 8) qp) (aU (bx 9 (aA dI (dq (aa (vC (.int 40)) (aa (aA cP (vC (.int 1)) (aA bK (dG 1 bO (aa (ab 0) ah)) (aJ (g2 AH) (aa (vC (.int 1)) (aa (ab 4) ah))))) (aa (aA bK (dG 1 bO (aa (ab 0) ah)) (vC (.int 41))) ah)))) (aA bK (dG 1 bO (aa (ab 0) ah)) (vC (.int 3))))) (bw (cN (aa (ab 3) (aa (ab 5) (aa (aJ (g1 eL) (aa (ab 7) ah)) (aa (ab 9) ah)))))))))))))
noncomputable def pT:FM:=jf 3 7 ([3]++([4]++([5]++([6]++([7]++(([8]++[])++([9]++[]))))))) GR
theorem DP:ay ["_law_drawn","_law_most","_law_ties_here","_law_things","_law_many","_law_rows","_law_way","_law_patience","_law_k","_law_asks"] ["_law_drawn","_law_most","_law_ties_here"] (aj xO):=⟨rfl,rfl,rfl,by decide+kernel,rfl,by decide+kernel,by decide+kernel⟩
theorem Ja(h:dO K mg "_law_web" xO f fd ["_law_drawn","_law_most","_law_ties_here"])(T:cA mg)(zLties:Cl P w K mg base "_law_ties" rX ["_law_drawn","_law_things","_law_many"] 4 3 rk)(zLnext:Cl P w K mg base "_law_next" lu ["_law_drawn"] 1 1 bO):aG P w K mg base ck 5 f fd ["_law_drawn","_law_most","_law_ties_here"] (eu K 3 pT):=by obtain⟨Q0,Q1,P5,QK⟩:=zLties;obtain⟨PM,PN,OE,OF⟩:=zLnext;have nd:=DP.nd;exact h.fn DP rfl rfl (λcdv A outer s H E hr=>(@af _ _ _ _ _ _ _ _ (@aS _ _ _ _ _ 3 _ _ nd rfl (Or.inl rfl) (@bG _ _ _ _ _ _ _ (@bP _ _ _ _ _ _ _ _ _ _ _ _ _ _ _ OE OF (hr.mono (by decide)) ((¬0)∘ac) (by rfl) (by decide) (by rfl) (by rfl)) (@dJ _ _ _ _ _ _ _ rfl (¬1) ae)) (by rfl) (by trivial)) (@af _ _ _ _ _ _ _ _ (@aS _ _ _ _ _ 4 _ _ nd rfl (Or.inl rfl) (@uk _ _ _ _ _ _ _ rfl (@bG _ _ _ _ _ _ _ (@bP _ _ _ _ _ _ _ _ _ _ _ _ _ _ _ OE OF (hr.mono (by decide)) ((¬0)∘ac) (by rfl) (by decide) (by rfl) (by rfl)) (@dJ _ _ _ _ _ _ _ rfl (¬2) ae)) (@a_ _ _ _ _ _ _ _ _ _ (@b_int _ _) (by rfl) T.b_int ((@rK _ _ _ _ _ _ _ _ _ (@BE _ _) (¬3) ae (aH _))∘ac) (by decide) (by decide) (by rfl) (by rfl))) (by rfl) (by trivial)) (@af _ _ _ _ _ _ _ _ (@aS _ _ _ _ _ 5 _ _ nd rfl (Or.inl rfl) (@bP _ _ _ _ _ _ _ _ _ _ _ _ _ _ _ P5 QK (hr.mono (by decide)) ((¬0)∘((@a_ _ _ _ _ _ _ _ _ _ (@b_max _ _ rfl) (by rfl) T.b_max (ae∘((¬3)∘ac)) (by decide) (by decide) (by rfl) (by rfl))∘((¬4)∘ac))) (by rfl) (by decide) (by rfl) (by rfl)) (by rfl) (by trivial)) (@af _ _ _ _ _ _ _ _ (@aS _ _ _ _ _ 6 _ _ nd rfl (Or.inl rfl) (@bG _ _ _ _ _ _ _ (@bP _ _ _ _ _ _ _ _ _ _ _ _ _ _ _ OE OF (hr.mono (by decide)) ((¬0)∘ac) (by rfl) (by decide) (by rfl) (by rfl)) ae) (by rfl) (by trivial)) (@af _ _ _ _ _ _ _ _ (@aS _ _ _ _ _ 7 _ _ nd rfl (Or.inl rfl) (@cC _ _ _ _ _ ac) (by rfl) (by trivial)) (@af _ _ _ _ _ _ _ _ (@mD _ _ _ _ _ _ _ _ _ _ _ Tv rfl (@fN _ _ _ _ _ _ _ rfl T.b_range ((¬3)∘ac) (by rfl)) (@aR _ _ _ 8 _ nd rfl (Or.inl rfl) (by trivial)) (@ar _ _ _ _ _ (@ij _ _ _ _ _ (@iJ _ _ _ _ _ _ _ _ _ rfl (¬7) ((@cu _ _ _ _ _ _ _ rfl (@cC _ _ _ _ _ (ae∘((@dJ _ _ _ _ _ _ _ rfl ae (@bG _ _ _ _ _ _ _ (@bP _ _ _ _ _ _ _ _ _ _ _ _ _ _ _ OE OF (hr.mono (by decide)) ((¬0)∘ac) (by rfl) (by decide) (by rfl) (by rfl)) ae))∘((@bG _ _ _ _ _ _ _ (@bP _ _ _ _ _ _ _ _ _ _ _ _ _ _ _ OE OF (hr.mono (by decide)) ((¬0)∘ac) (by rfl) (by decide) (by rfl) (by rfl)) ae)∘ac)))) (¬6) (λ_ _=>rfl))∘ac) (by rfl) (by rfl) (by rfl) (by rfl) (by rfl)) (by rfl))) (by intro _;rfl)) (@af _ _ _ _ _ _ _ _ (@aS _ _ _ _ _ 9 _ _ nd rfl (Or.inl rfl) (@cu _ _ _ _ _ _ _ rfl (@cC _ _ _ _ _ (ae∘((@dJ _ _ _ _ _ _ _ rfl ae (@bG _ _ _ _ _ _ _ (@bP _ _ _ _ _ _ _ _ _ _ _ _ _ _ _ OE OF (hr.mono (by decide)) ((¬0)∘ac) (by rfl) (by decide) (by rfl) (by rfl)) (@a_ _ _ _ _ _ _ _ _ _ (@b_max _ _ rfl) (by rfl) T.b_max (ae∘((¬4)∘ac)) (by decide) (by decide) (by rfl) (by rfl))))∘((@bG _ _ _ _ _ _ _ (@bP _ _ _ _ _ _ _ _ _ _ _ _ _ _ _ OE OF (hr.mono (by decide)) ((¬0)∘ac) (by rfl) (by decide) (by rfl) (by rfl)) ae)∘ac)))) (@bG _ _ _ _ _ _ _ (@bP _ _ _ _ _ _ _ _ _ _ _ _ _ _ _ OE OF (hr.mono (by decide)) ((¬0)∘ac) (by rfl) (by decide) (by rfl) (by rfl)) ae) (λ_ _=>rfl)) (by rfl) (by trivial)) (@ar _ _ _ _ _ (@aE _ _ _ _ _ (@bH _ _ _ _ _ _ ((¬3)∘((¬5)∘((@a_ _ _ _ _ _ _ _ _ _ (@b_tuple _ _ rfl) (by rfl) T.b_tuple ((¬7)∘ac) (by decide) (by decide) (by rfl) (by rfl))∘((¬9)∘ac)))))))))))))))
noncomputable def pO:FI:=(kW (ab 1))
noncomputable def gn:FT:=(az (aA (yf false) (ab 0) (yg (aA dI (aA dI (ab 1) (vC (.int 1))) (ab 2)) gU (gG (vC (.int 2))))))
noncomputable def gu:FE:=(ab 2)
noncomputable def tL:FS:=(bw (aJ (g1 iT) (aa (cw [(2,"_law_thing"),(0,"_law_web_here")] 1 pO (am 2) gn gu) ah)))
noncomputable def iw:FM:=jf 3 0 [] tL
theorem r8:ay ["_law_web_here","_law_asked","_law_thing"] ["_law_web_here","_law_asked","_law_thing"] (aj jz):=⟨rfl,rfl,rfl,by decide+kernel,rfl,by decide+kernel,by decide+kernel⟩
theorem yM(h:dO K mg "_law_asks_of" jz f fd ["_law_web_here","_law_asked","_law_thing"])(T:cA mg):aG P w K mg base ck 1 f fd ["_law_web_here","_law_asked","_law_thing"] (eu K 3 iw):=by have nd:=r8.nd;exact h.fn r8 rfl rfl (λcdv A outer s H E hr=>(@ar _ _ _ _ _ (@aE _ _ _ _ _ (@a_ _ _ _ _ _ _ _ _ _ (@b_len _ _ rfl) (by rfl) T.b_len ((@eT _ _ _ _ _ _ _ _ _ _ _ _ _ [(2,"_law_thing"),(0,"_law_web_here")] ["_law_tie"] rfl rfl (@fP _ _ _ _ _ rfl (¬1)) (λC s0 H0 fp=>(@aR _ _ _ 2 _ (show SY (["_law_thing","_law_web_here","_law_tie"]:List Str) by decide+kernel) rfl (Or.inl rfl) (by trivial))) (λC s0 H0 fp=>(@ka _ _ _ _ (@aQ _ _ _ _ _ _ _ _ _ (@Av _ _ _ rfl hr) (¬0) (@qt _ _ _ _ _ _ _ _ _ _ rfl (@cu _ _ _ _ _ _ _ rfl (@cu _ _ _ _ _ _ _ rfl (¬1) ae (λ_ _=>rfl)) (¬2) (λ_ _=>rfl)) (@j7 _ _) (@j8 _ _ _ _ ae)) (by with_unfolding_all rfl)))) (λC s0 H0 fp=>(¬2)) rfl (by rfl) (by intro _;rfl))∘ac) (by decide) (by decide) (by rfl) (by rfl)))))
noncomputable def zI:FI:=(kW (yg (aA dI (aA dI (ab 0) (vC (.int 1))) (ab 2)) gU (gG (vC (.int 2)))))
noncomputable def jM:FS:=(jx (tF (az (aA (yf false) (ab 5) (ab 4))) (az (aA GX (dG 3 iw (aa (ab 0) (aa (ab 3) (aa (ab 5) ah)))) (aA dI (aA dI (ab 0) (vC (.int 2))) (ab 5))))) (bw (vC (.bool false))) cY)
noncomputable def tM:FS:=(aU (lW (ab 1) (cf (aF (am 3) (aF (am 4) bY)))) (aU (jx (tF (az (aA (yf false) (ab 2) (ab 3))) (az (aA GX (aJ (g1 iT) (aa (ab 3) ah)) (aA dI (ab 0) (vC (.int 3)))))) (bw (vC (.bool false))) cY) (aU (jd ([5]++([]++[])) zI (am 5) jM) (bw (vC (.bool true))))))
noncomputable def k8:FM:=jf 3 3 (([3]++([4]++[]))++(([]++[])++(([5]++([]++[]))++[]))) tM
theorem DO:ay ["_law_web_here","_law_stand","_law_tie","_law_asked","_law_taken","_law_thing"] ["_law_web_here","_law_stand","_law_tie"] (aj uq):=⟨rfl,rfl,rfl,by decide+kernel,rfl,by decide+kernel,by decide+kernel⟩
theorem I_(h:dO K mg "_law_may" uq f fd ["_law_web_here","_law_stand","_law_tie"])(T:cA mg)(zLasks_of:Cl P w K mg base "_law_asks_of" jz ["_law_web_here","_law_asked","_law_thing"] 1 3 iw):aG P w K mg base ck 2 f fd ["_law_web_here","_law_stand","_law_tie"] (eu K 3 k8):=by obtain⟨QL,QM,Pd,Qh⟩:=zLasks_of;have nd:=DO.nd;exact h.fn DO rfl rfl (λcdv A outer s H E hr=>(@af _ _ _ _ _ _ _ _ (@rO _ _ _ _ _ _ _ _ (¬1) (@jc _ _ _ _ _ _ _ _ rfl rfl (@bu _ _ _ _ _ _ _ _ (@aR _ _ _ 3 _ nd rfl (Or.inl rfl) (by trivial)) (@bu _ _ _ _ _ _ _ _ (@aR _ _ _ 4 _ nd rfl (Or.inl rfl) (by trivial)) (@gb _ _) (by rfl)) (by rfl)) (bM (bM ja)) (by rfl) (by rfl)) (by rfl) (by rfl) (by rfl)) (@af _ _ _ _ _ _ _ _ (@cL _ _ _ _ _ _ _ _ _ _ _ (@rP _ _ _ _ (@pU _ _ _ _ _ _ _ _ (@aQ _ _ _ _ _ _ _ _ _ (@Av _ _ _ rfl hr) (¬2) (¬3) (by with_unfolding_all rfl)) (@lm _ _ _ _ _ (@aQ _ _ _ _ _ _ _ _ _ (@BD _ _) (@a_ _ _ _ _ _ _ _ _ _ (@b_len _ _ rfl) (by rfl) T.b_len ((¬3)∘ac) (by decide) (by decide) (by rfl) (by rfl)) (@cu _ _ _ _ _ _ _ rfl (¬0) ae (λ_ _=>rfl)) (aH _))))) (@ar _ _ _ _ _ (@aE _ _ _ _ _ (@md _ _ _ _ _))) (@bh _ _)) (@af _ _ _ _ _ _ _ _ (@mD _ _ _ _ _ _ _ _ _ _ _ Tv rfl (@fP _ _ _ _ _ rfl (@qt _ _ _ _ _ _ _ _ _ _ rfl (@cu _ _ _ _ _ _ _ rfl (@cu _ _ _ _ _ _ _ rfl (¬0) ae (λ_ _=>rfl)) (¬2) (λ_ _=>rfl)) (@j7 _ _) (@j8 _ _ _ _ ae))) (@aR _ _ _ 5 _ nd rfl (Or.inl rfl) (by trivial)) (@ar _ _ _ _ _ (@cL _ _ _ _ _ _ _ _ _ _ _ (@rP _ _ _ _ (@pU _ _ _ _ _ _ _ _ (@aQ _ _ _ _ _ _ _ _ _ (@Av _ _ _ rfl hr) (¬5) (¬4) (by with_unfolding_all rfl)) (@lm _ _ _ _ _ (@aQ _ _ _ _ _ _ _ _ _ (@BD _ _) (@bP _ _ _ _ _ _ _ _ _ _ _ _ _ _ _ Pd Qh (hr.mono (by decide)) ((¬0)∘((¬3)∘((¬5)∘ac))) (by rfl) (by decide) (by rfl) (by rfl)) (@cu _ _ _ _ _ _ _ rfl (@cu _ _ _ _ _ _ _ rfl (¬0) ae (λ_ _=>rfl)) (¬5) (λ_ _=>rfl)) (aH _))))) (@ar _ _ _ _ _ (@aE _ _ _ _ _ (@md _ _ _ _ _))) (@bh _ _))) (by intro _;rfl)) (@ar _ _ _ _ _ (@aE _ _ _ _ _ (@md _ _ _ _ _)))))))
noncomputable def qJ:FS:=(aU (lW (ab 1) (cf (aF (am 4) (aF (am 5) bY)))) (aU (bx 6 (ab 5)) (aU (jx (az (ab 3)) (bx 6 (aJ (g1 eL) (aa (aJ (g1 fB) (aa (aA cP (ab 5) (yg (aA dI (aA dI (ab 0) (vC (.int 1))) (ab 2)) gU (gG (vC (.int 2))))) ah)) ah))) cY) (bw (cN (aa (aJ (g1 eL) (aa (aJ (g1 fB) (aa (aA cP (ab 4) (cN (aa (ab 2) ah))) ah)) ah)) (aa (ab 6) ah)))))))
noncomputable def iG:FM:=jf 4 3 (([4]++([5]++[]))++([6]++(([6]++[])++[]))) qJ
theorem ur:ay ["_law_web_here","_law_stand","_law_tie","_law_truth","_law_asked","_law_taken","_law_more"] ["_law_web_here","_law_stand","_law_tie","_law_truth"] (aj lq):=⟨rfl,rfl,rfl,by decide+kernel,rfl,by decide+kernel,by decide+kernel⟩
theorem AS(h:dO K mg "_law_behind" lq f fd ["_law_web_here","_law_stand","_law_tie","_law_truth"])(T:cA mg):aG P w K mg base ck 1 f fd ["_law_web_here","_law_stand","_law_tie","_law_truth"] (eu K 4 iG):=by have nd:=ur.nd;exact h.fn ur rfl rfl (λcdv A outer s H E hr=>(@af _ _ _ _ _ _ _ _ (@rO _ _ _ _ _ _ _ _ (¬1) (@jc _ _ _ _ _ _ _ _ rfl rfl (@bu _ _ _ _ _ _ _ _ (@aR _ _ _ 4 _ nd rfl (Or.inl rfl) (by trivial)) (@bu _ _ _ _ _ _ _ _ (@aR _ _ _ 5 _ nd rfl (Or.inl rfl) (by trivial)) (@gb _ _) (by rfl)) (by rfl)) (bM (bM ja)) (by rfl) (by rfl)) (by rfl) (by rfl) (by rfl)) (@af _ _ _ _ _ _ _ _ (@aS _ _ _ _ _ 6 _ _ nd rfl (Or.inl rfl) (¬5) (by rfl) (by trivial)) (@af _ _ _ _ _ _ _ _ (@cL _ _ _ _ _ _ _ _ _ _ _ (@iL _ _ _ _ (¬3) (by intro _;rfl)) (@ar _ _ _ _ _ (@aS _ _ _ _ _ 6 _ _ nd rfl (Or.inl rfl) (@a_ _ _ _ _ _ _ _ _ _ (@b_tuple _ _ rfl) (by rfl) T.b_tuple ((@a_ _ _ _ _ _ _ _ _ _ (@b_sorted _ _ rfl) (by rfl) T.b_sorted ((@dJ _ _ _ _ _ _ _ rfl (¬5) (@qt _ _ _ _ _ _ _ _ _ _ rfl (@cu _ _ _ _ _ _ _ rfl (@cu _ _ _ _ _ _ _ rfl (¬0) ae (λ_ _=>rfl)) (¬2) (λ_ _=>rfl)) (@j7 _ _) (@j8 _ _ _ _ ae)))∘ac) (by decide) (by decide) (by rfl) (by rfl))∘ac) (by decide) (by decide) (by rfl) (by rfl)) (by rfl) (by trivial))) (@bh _ _)) (@ar _ _ _ _ _ (@aE _ _ _ _ _ (@bH _ _ _ _ _ _ ((@a_ _ _ _ _ _ _ _ _ _ (@b_tuple _ _ rfl) (by rfl) T.b_tuple ((@a_ _ _ _ _ _ _ _ _ _ (@b_sorted _ _ rfl) (by rfl) T.b_sorted ((@dJ _ _ _ _ _ _ _ rfl (¬4) (@bH _ _ _ _ _ _ ((¬2)∘ac)))∘ac) (by decide) (by decide) (by rfl) (by rfl))∘ac) (by decide) (by decide) (by rfl) (by rfl))∘((¬6)∘ac)))))))))
noncomputable def kU:FI:=(eP (aa (aJ (g1 iT) (aa (aA dI (ab 0) (vC (.int 1))) ah)) ah))
noncomputable def gh:FT:=(az (dG 3 k8 (aa (ab 0) (aa (ab 1) (aa (ab 2) ah)))))
noncomputable def gr:FE:=(ab 2)
noncomputable def tK:FS:=(bw (cw [(0,"_law_web_here"),(1,"_law_stand")] 1 kU (am 2) gh gr))
noncomputable def jp:FM:=jf 2 0 [] tK
theorem r6:ay ["_law_web_here","_law_stand"] ["_law_web_here","_law_stand"] (aj jy):=⟨rfl,rfl,rfl,by decide+kernel,rfl,by decide+kernel,by decide+kernel⟩
theorem yL(h:dO K mg "_law_askable" jy f fd ["_law_web_here","_law_stand"])(T:cA mg)(zLmay:Cl P w K mg base "_law_may" uq ["_law_web_here","_law_stand","_law_tie"] 2 3 k8):aG P w K mg base ck 3 f fd ["_law_web_here","_law_stand"] (eu K 2 jp):=by obtain⟨QF,QG,P4,P_⟩:=zLmay;have nd:=r6.nd;exact h.fn r6 rfl rfl (λcdv A outer s H E hr=>(@ar _ _ _ _ _ (@aE _ _ _ _ _ (@eT _ _ _ _ _ _ _ _ _ _ _ _ _ [(0,"_law_web_here"),(1,"_law_stand")] ["_law_tie"] rfl rfl (@fN _ _ _ _ _ _ _ rfl T.b_range ((@a_ _ _ _ _ _ _ _ _ _ (@b_len _ _ rfl) (by rfl) T.b_len ((@cu _ _ _ _ _ _ _ rfl (¬0) ae (λ_ _=>rfl))∘ac) (by decide) (by decide) (by rfl) (by rfl))∘ac) (by rfl)) (λC s0 H0 fp=>(@aR _ _ _ 2 _ (show SY (["_law_web_here","_law_stand","_law_tie"]:List Str) by decide+kernel) rfl (Or.inl rfl) (by trivial))) (λC s0 H0 fp=>(@ka _ _ _ _ (@iL _ _ _ _ (@bP _ _ _ _ _ _ _ _ _ _ _ _ _ _ _ P4 P_ (hr.mono (by decide)) ((¬0)∘((¬1)∘((¬2)∘ac))) (by rfl) (by decide) (by rfl) (by rfl)) (by intro _;rfl)))) (λC s0 H0 fp=>(¬2)) rfl (by rfl) (by intro _;rfl)))))
noncomputable def wZ:FI:=(kW (ab 1))
noncomputable def wH:FT:=(az (ab 2))
noncomputable def m4:FE:=(aA dI (aA dI (aA dI (ab 0) (vC (.int 1))) (ab 1)) (vC (.int 3)))
noncomputable def Bx:FS:=(bw (aJ (g1 (jm tZ)) (aa (cw [(0,"_law_web_here")] 2 wZ (cf (aF (am 1) (aF (am 2) bY))) wH m4) ah)))
noncomputable def rj:FM:=jf 2 0 [] Bx
theorem Aa:ay ["_law_web_here","_law_run"] ["_law_web_here","_law_run"] (aj rV):=⟨rfl,rfl,rfl,by decide+kernel,rfl,by decide+kernel,by decide+kernel⟩
theorem Fd(h:dO K mg "_law_kept" rV f fd ["_law_web_here","_law_run"])(T:cA mg):aG P w K mg base ck 1 f fd ["_law_web_here","_law_run"] (eu K 2 rj):=by have nd:=Aa.nd;exact h.fn Aa rfl rfl (λcdv A outer s H E hr=>(@ar _ _ _ _ _ (@aE _ _ _ _ _ (@a_ _ _ _ _ _ _ _ _ _ (@b_sum _ _ _ rfl hr) (by rfl) T.b_sum ((@eT _ _ _ _ _ _ _ _ _ _ _ _ _ [(0,"_law_web_here")] ["_law_tie","_law_truth"] rfl rfl (@fP _ _ _ _ _ rfl (¬1)) (λC s0 H0 fp=>(@jc _ _ _ _ _ _ _ _ rfl rfl (@bu _ _ _ _ _ _ _ _ (@aR _ _ _ 1 _ (show SY (["_law_web_here","_law_tie","_law_truth"]:List Str) by decide+kernel) rfl (Or.inl rfl) (by trivial)) (@bu _ _ _ _ _ _ _ _ (@aR _ _ _ 2 _ (show SY (["_law_web_here","_law_tie","_law_truth"]:List Str) by decide+kernel) rfl (Or.inl rfl) (by trivial)) (@gb _ _) (by rfl)) (by rfl)) (bM (bM ja)) (by rfl) (by rfl))) (λC s0 H0 fp=>(@ka _ _ _ _ (@iL _ _ _ _ (¬2) (by intro _;rfl)))) (λC s0 H0 fp=>(@cu _ _ _ _ _ _ _ rfl (@cu _ _ _ _ _ _ _ rfl (@cu _ _ _ _ _ _ _ rfl (¬0) ae (λ_ _=>rfl)) (¬1) (λ_ _=>rfl)) ae (λ_ _=>rfl))) rfl (by rfl) (by intro _;rfl))∘ac) (by decide) (by decide) (by rfl) (by rfl)))))
noncomputable def nF:FI:=(kW (ab 1))
noncomputable def mO:FS:=(bx 2 (dG 4 iG (aa (ab 0) (aa (ab 2) (aa (ab 3) (aa (ab 4) ah))))))
noncomputable def qL:FS:=(aU (bx 2 (cN (aa (cN ah) (aa (cN ah) ah)))) (aU (jd (([3]++([4]++[]))++[2]) nF (cf (aF (am 3) (aF (am 4) bY))) mO) (bw (ab 2))))
noncomputable def iH:FM:=jf 2 3 ([2]++((([3]++([4]++[]))++[2])++[])) qL
theorem pW:ay ["_law_web_here","_law_run","_law_stand","_law_tie","_law_truth"] ["_law_web_here","_law_run"] (aj iN):=⟨rfl,rfl,rfl,by decide+kernel,rfl,by decide+kernel,by decide+kernel⟩
theorem xu(h:dO K mg "_law_stand_of" iN f fd ["_law_web_here","_law_run"])(T:cA mg)(zLbehind:Cl P w K mg base "_law_behind" lq ["_law_web_here","_law_stand","_law_tie","_law_truth"] 1 4 iG):aG P w K mg base ck 2 f fd ["_law_web_here","_law_run"] (eu K 2 iH):=by obtain⟨QR,QS,Pl,Qt⟩:=zLbehind;have nd:=pW.nd;exact h.fn pW rfl rfl (λcdv A outer s H E hr=>(@af _ _ _ _ _ _ _ _ (@aS _ _ _ _ _ 2 _ _ nd rfl (Or.inl rfl) (@bH _ _ _ _ _ _ ((@bH _ _ _ _ _ _ ac)∘((@bH _ _ _ _ _ _ ac)∘ac))) (by rfl) (by trivial)) (@af _ _ _ _ _ _ _ _ (@mD _ _ _ _ _ _ _ _ _ _ _ Tv rfl (@fP _ _ _ _ _ rfl (¬1)) (@jc _ _ _ _ _ _ _ _ rfl rfl (@bu _ _ _ _ _ _ _ _ (@aR _ _ _ 3 _ nd rfl (Or.inl rfl) (by trivial)) (@bu _ _ _ _ _ _ _ _ (@aR _ _ _ 4 _ nd rfl (Or.inl rfl) (by trivial)) (@gb _ _) (by rfl)) (by rfl)) (bM (bM ja)) (by rfl) (by rfl)) (@ar _ _ _ _ _ (@aS _ _ _ _ _ 2 _ _ nd rfl (Or.inl rfl) (@bP _ _ _ _ _ _ _ _ _ _ _ _ _ _ _ Pl Qt (hr.mono (by decide)) ((¬0)∘((¬2)∘((¬3)∘((¬4)∘ac)))) (by rfl) (by decide) (by rfl) (by rfl)) (by rfl) (by trivial))) (by intro _;rfl)) (@ar _ _ _ _ _ (@aE _ _ _ _ _ (¬2))))))
noncomputable def nE:FI:=(kW (ab 0))
noncomputable def m5:FE:=(aJ (g1 iU) (aa (ab 0) ah))
noncomputable def qK:FS:=(aU (jx (az (aA (bc false) (ab 0) (dq ah))) (bw (vC (.str ("none":Str)))) cY) (bw (aA pN (vC (.str (" ":Str))) (cw [] 1 nE (am 0) jG m5))))
noncomputable def fD:FM:=jf 1 0 (([]++[])++[]) qK
theorem pV:ay ["_law_numbers"] ["_law_numbers"] (aj iM):=⟨rfl,rfl,rfl,by decide+kernel,rfl,by decide+kernel,by decide+kernel⟩
theorem xt(h:dO K mg "_law_row_text" iM f fd ["_law_numbers"])(T:cA mg):aG P w K mg base ck 1 f fd ["_law_numbers"] (eu K 1 fD):=by have nd:=pV.nd;exact h.fn pV rfl rfl (λcdv A outer s H E hr=>(@af _ _ _ _ _ _ _ _ (@cL _ _ _ _ _ _ _ _ _ _ _ (@aQ _ _ _ _ _ _ _ _ _ (@iS _ _ _ rfl hr) (¬0) (@cC _ _ _ _ _ ac) (aH _)) (@ar _ _ _ _ _ (@aE _ _ _ _ _ (@aC _ _ _ _ _))) (@bh _ _)) (@ar _ _ _ _ _ (@aE _ _ _ _ _ (@Dd _ _ _ _ _ _ _ _ _ rfl (@eT _ _ _ _ _ _ _ _ _ _ _ _ _ [] ["_law_number"] rfl rfl (@fP _ _ _ _ _ rfl (¬0)) (λC s0 H0 fp=>(@aR _ _ _ 0 _ (show SY (["_law_number"]:List Str) by decide+kernel) rfl (Or.inl rfl) (by trivial))) (λC s0 H0 fp=>(@qA _ _)) (λC s0 H0 fp=>(@a_ _ _ _ _ _ _ _ _ _ (@b_str _ _) (by rfl) T.b_str ((¬0)∘ac) (by decide) (by decide) (by rfl) (by rfl))) rfl (by rfl) (by intro _;rfl)) (by rfl) (by rfl) (by rfl) (by rfl) (by rfl))))))
noncomputable def zH:FI:=(kW (ab 3))
noncomputable def uU:FT:=(az (ab 1))
noncomputable def ve:FE:=(ab 0)
noncomputable def fx:XS:=(mF 1 3 4 ([5]++((([6]++(([]++[])++([]++[])))++[])++(((([]++[])++([6]++([]++[])))++[])++(([]++[])++(([]++[])++(([]++[])++(([]++[])++([]++[])))))))) (aU (bx 5 (dG 2 iH (aa (ab 0) (aa (ab 3) ah)))) (aU (jx (az (aA (bc false) (l5 (ab 2) gU (gG (vC (.int 4)))) (vC (.str ("ask ":Str))))) (aU (bx 6 (aJ (g1 jT) (aa (l5 (ab 2) (gG (vC (.int 4))) gU) ah))) (aU (jx (tF (az (aA (bc true) (ab 4) (dq ah))) (mL (az (dG 3 k8 (aa (ab 0) (aa (ab 5) (aa (ab 6) ah))))))) (bw (vC (.str ("NoAsk":Str)))) cY) (aU (eV (cx bR (ab 4) (aa (ab 6) ah))) (bw (vC (.str ("asked":Str))))))) cY) (aU (jx (tF (az (aA (bc false) (ab 2) (vC (.str ("yes":Str))))) (az (aA (bc false) (ab 2) (vC (.str ("no":Str)))))) (aU (jx (az (aA (bc false) (ab 4) (dq ah))) (bw (vC (.str ("NoAsk":Str)))) cY) (aU (bx 6 (cx nL (ab 4) ah)) (aU (eV (cx bR (ab 3) (aa (cN (aa (ab 6) (aa (aA (bc false) (ab 2) (vC (.str ("yes":Str)))) ah))) ah))) (bw (aA dI (dq (aa (vC (.str ("gone":Str))) (aa (aA jl (vC (.str ("kept ":Str))) (aJ (g1 iU) (aa (aA dI (aA dI (aA dI (ab 0) (vC (.int 1))) (ab 6)) (vC (.int 3))) ah))) ah))) (aJ (g1 yx) (aa (aA (bc false) (ab 2) (vC (.str ("yes":Str)))) ah))))))) cY) (aU (jx (az (aA (bc false) (ab 2) (vC (.str ("may":Str))))) (bw (dG 1 fD (aa (dG 2 jp (aa (ab 0) (aa (ab 5) ah))) ah))) cY) (aU (jx (az (aA (bc false) (ab 2) (vC (.str ("kept":Str))))) (bw (aA jl (aA jl (dG 1 fD (aa (cw [] 2 zH (cf (aF (am 0) (aF (am 1) bY))) uU ve) ah)) (vC (.str (" ":Str)))) (aJ (g1 iU) (aa (dG 2 rj (aa (ab 0) (aa (ab 3) ah))) ah)))) cY) (aU (jx (mK (az (aA (bc false) (ab 4) (dq ah))) (az (aA (bc false) (ab 3) (dq ah)))) (bw (vC (.str ("NoAsk":Str)))) cY) (aU (jx (az (aA (bc false) (ab 4) (dq ah))) (eV (cx nL (ab 3) ah)) cY) (aU (eV (cx oY (ab 4) ah)) (bw (vC (.str ("back":Str)))))))))))))
noncomputable def bL:MX:=cy 3 4 (3::4::([5]++((([6]++(([]++[])++([]++[])))++[])++(((([]++[])++([6]++([]++[])))++[])++(([]++[])++(([]++[])++(([]++[])++(([]++[])++([]++[]))))))))) (fx)
theorem DL:ay ["_law_web_here","_law_state","_law_line_here","_law_run","_law_waiting","_law_stand","_law_tie"] ["_law_web_here","_law_state","_law_line_here"] (aj uo):=⟨rfl,rfl,rfl,by decide+kernel,rfl,by decide+kernel,by decide+kernel⟩
theorem Fh{P:Rw}{w:Ro}{K:Rj}{C:xM}{mg:Str->Option Oq}{base:Ru}{f:xM}{fd:RD}(h:dO K mg "_law_due" uo f fd ["_law_web_here","_law_state","_law_line_here"])(T:cA mg){Px:xM}{Py:RD}(OV:dO K mg "_law_stand_of" iN Px Py ["_law_web_here","_law_run"])(O9:aG P w K mg base ck 2 Px Py ["_law_web_here","_law_run"] (eu K 2 iH)){Pz:xM}{PB:RD}(OL:dO K mg "_law_row_text" iM Pz PB ["_law_numbers"])(OW:aG P w K mg base ck 1 Pz PB ["_law_numbers"] (eu K 1 fD)){PP:xM}{PQ:RD}(O1:dO K mg "_law_askable" jy PP PQ ["_law_web_here","_law_stand"])(Pe:aG P w K mg base ck 3 PP PQ ["_law_web_here","_law_stand"] (eu K 2 jp)){QF:xM}{QG:RD}(P4:dO K mg "_law_may" uq QF QG ["_law_web_here","_law_stand","_law_tie"])(P_:aG P w K mg base ck 2 QF QG ["_law_web_here","_law_stand","_law_tie"] (eu K 3 k8)){Qw:xM}{Qx:RD}(PR:dO K mg "_law_kept" rV Qw Qx ["_law_web_here","_law_run"])(P6:aG P w K mg base ck 1 Qw Qx ["_law_web_here","_law_run"] (eu K 2 rj)):aG P w K mg base ck 4 f fd ["_law_web_here","_law_state","_law_line_here"] (lY K C 3 (bL)):=by have nd:=DL.nd;exact h.F.okY DL rfl rfl (λcdv A outer s H E hr=>(@A7 _ _ _ _ _ _ _ _ _ _ _ 1 3 4 _ _ _ _ rfl rfl (@aN _ 1 _ _ (by rfl) (by first|exact Or.inl rfl|exact Or.inr (Or.inl rfl)|exact Or.inr (Or.inr rfl)) (by decide) (by decide)) nd rfl rfl (Or.inl rfl) (Or.inl rfl) (by trivial) (by trivial) (by rfl) (by rfl) (by rfl) (by rfl) (by rfl) (by rfl) (by rfl) (@af _ _ _ _ _ _ _ _ (@aS _ _ _ _ _ 5 _ _ nd rfl (Or.inl rfl) (@bP _ _ _ _ _ _ _ _ _ _ _ _ _ _ _ OV O9 (hr.mono (by decide)) ((¬0)∘((¬3)∘ac)) (by rfl) (by decide) (by rfl) (by rfl)) (by rfl) (by trivial)) (@af _ _ _ _ _ _ _ _ (@cL _ _ _ _ _ _ _ _ _ _ _ (@aQ _ _ _ _ _ _ _ _ _ (@iS _ _ _ rfl hr) (@xF _ _ _ _ _ _ _ _ _ _ (¬2) (@j7 _ _) (@j8 _ _ _ _ ae)) (@aC _ _ _ _ _) (aH _)) (@af _ _ _ _ _ _ _ _ (@aS _ _ _ _ _ 6 _ _ nd rfl (Or.inl rfl) (@a_ _ _ _ _ _ _ _ _ _ (@zw _ _) (by rfl) T.b_int ((@xF _ _ _ _ _ _ _ _ _ _ (¬2) (@j8 _ _ _ _ ae) (@j7 _ _))∘ac) (by decide) (by decide) (by rfl) (by rfl)) (by rfl) (by trivial)) (@af _ _ _ _ _ _ _ _ (@cL _ _ _ _ _ _ _ _ _ _ _ (@rP _ _ _ _ (@pU _ _ _ _ _ _ _ _ (@aQ _ _ _ _ _ _ _ _ _ (@ym _ _ _ rfl hr) (¬4) (@cC _ _ _ _ _ ac) (aH _)) (@lm _ _ _ _ _ (@yV _ _ _ _ _ (@iL _ _ _ _ (@bP _ _ _ _ _ _ _ _ _ _ _ _ _ _ _ P4 P_ (hr.mono (by decide)) ((¬0)∘((¬5)∘((¬6)∘ac))) (by rfl) (by decide) (by rfl) (by rfl)) (by intro _;rfl)))))) (@ar _ _ _ _ _ (@aE _ _ _ _ _ (@aC _ _ _ _ _))) (@bh _ _)) (@af _ _ _ _ _ _ _ _ (@ij _ _ _ _ _ (@iJ _ _ _ _ _ _ _ _ _ rfl (¬4) ((¬6)∘ac) (by rfl) (by rfl) (by rfl) (by rfl) (by rfl)) (by rfl)) (@ar _ _ _ _ _ (@aE _ _ _ _ _ (@aC _ _ _ _ _)))))) (@bh _ _)) (@af _ _ _ _ _ _ _ _ (@cL _ _ _ _ _ _ _ _ _ _ _ (@rP _ _ _ _ (@pU _ _ _ _ _ _ _ _ (@aQ _ _ _ _ _ _ _ _ _ (@iS _ _ _ rfl hr) (¬2) (@aC _ _ _ _ _) (aH _)) (@lm _ _ _ _ _ (@aQ _ _ _ _ _ _ _ _ _ (@iS _ _ _ rfl hr) (¬2) (@aC _ _ _ _ _) (aH _))))) (@af _ _ _ _ _ _ _ _ (@cL _ _ _ _ _ _ _ _ _ _ _ (@aQ _ _ _ _ _ _ _ _ _ (@iS _ _ _ rfl hr) (¬4) (@cC _ _ _ _ _ ac) (aH _)) (@ar _ _ _ _ _ (@aE _ _ _ _ _ (@aC _ _ _ _ _))) (@bh _ _)) (@af _ _ _ _ _ _ _ _ (@aS _ _ _ _ _ 6 _ _ nd rfl (Or.inl rfl) (@Ha _ _ _ _ _ _ rfl (¬4) (by rfl) (by rfl)) (by rfl) (by trivial)) (@af _ _ _ _ _ _ _ _ (@ij _ _ _ _ _ (@iJ _ _ _ _ _ _ _ _ _ rfl (¬3) ((@bH _ _ _ _ _ _ ((¬6)∘((@rK _ _ _ _ _ _ _ _ _ (@iS _ _ _ rfl hr) (¬2) (@aC _ _ _ _ _) (aH _))∘ac)))∘ac) (by rfl) (by rfl) (by rfl) (by rfl) (by rfl)) (by rfl)) (@ar _ _ _ _ _ (@aE _ _ _ _ _ (@cu _ _ _ _ _ _ _ rfl (@cC _ _ _ _ _ ((@aC _ _ _ _ _)∘((@vU _ _ _ _ _ _ _ (@aC _ _ _ _ _) (@a_ _ _ _ _ _ _ _ _ _ (@b_str _ _) (by rfl) T.b_str ((@cu _ _ _ _ _ _ _ rfl (@cu _ _ _ _ _ _ _ rfl (@cu _ _ _ _ _ _ _ rfl (¬0) ae (λ_ _=>rfl)) (¬6) (λ_ _=>rfl)) ae (λ_ _=>rfl))∘ac) (by decide) (by decide) (by rfl) (by rfl)))∘ac))) (@a_ _ _ _ _ _ _ _ _ _ (@b_int _ _) (by rfl) T.b_int ((@rK _ _ _ _ _ _ _ _ _ (@iS _ _ _ rfl hr) (¬2) (@aC _ _ _ _ _) (aH _))∘ac) (by decide) (by decide) (by rfl) (by rfl)) (λ_ _=>rfl))))))) (@bh _ _)) (@af _ _ _ _ _ _ _ _ (@cL _ _ _ _ _ _ _ _ _ _ _ (@aQ _ _ _ _ _ _ _ _ _ (@iS _ _ _ rfl hr) (¬2) (@aC _ _ _ _ _) (aH _)) (@ar _ _ _ _ _ (@aE _ _ _ _ _ (@bP _ _ _ _ _ _ _ _ _ _ _ _ _ _ _ OL OW (hr.mono (by decide)) ((@bP _ _ _ _ _ _ _ _ _ _ _ _ _ _ _ O1 Pe (hr.mono (by decide)) ((¬0)∘((¬5)∘ac)) (by rfl) (by decide) (by rfl) (by rfl))∘ac) (by rfl) (by decide) (by rfl) (by rfl)))) (@bh _ _)) (@af _ _ _ _ _ _ _ _ (@cL _ _ _ _ _ _ _ _ _ _ _ (@aQ _ _ _ _ _ _ _ _ _ (@iS _ _ _ rfl hr) (¬2) (@aC _ _ _ _ _) (aH _)) (@ar _ _ _ _ _ (@aE _ _ _ _ _ (@vU _ _ _ _ _ _ _ (@vU _ _ _ _ _ _ _ (@bP _ _ _ _ _ _ _ _ _ _ _ _ _ _ _ OL OW (hr.mono (by decide)) ((@eT _ _ _ _ _ _ _ _ _ _ _ _ _ [] ["_law_tie","_law_truth"] rfl rfl (@fP _ _ _ _ _ rfl (¬3)) (λC s0 H0 fp=>(@jc _ _ _ _ _ _ _ _ rfl rfl (@bu _ _ _ _ _ _ _ _ (@aR _ _ _ 0 _ (show SY (["_law_tie","_law_truth"]:List Str) by decide+kernel) rfl (Or.inl rfl) (by trivial)) (@bu _ _ _ _ _ _ _ _ (@aR _ _ _ 1 _ (show SY (["_law_tie","_law_truth"]:List Str) by decide+kernel) rfl (Or.inl rfl) (by trivial)) (@gb _ _) (by rfl)) (by rfl)) (bM (bM ja)) (by rfl) (by rfl))) (λC s0 H0 fp=>(@ka _ _ _ _ (@iL _ _ _ _ (¬1) (by intro _;rfl)))) (λC s0 H0 fp=>(¬0)) rfl (by rfl) (by intro _;rfl))∘ac) (by rfl) (by decide) (by rfl) (by rfl)) (@aC _ _ _ _ _)) (@a_ _ _ _ _ _ _ _ _ _ (@b_str _ _) (by rfl) T.b_str ((@bP _ _ _ _ _ _ _ _ _ _ _ _ _ _ _ PR P6 (hr.mono (by decide)) ((¬0)∘((¬3)∘ac)) (by rfl) (by decide) (by rfl) (by rfl))∘ac) (by decide) (by decide) (by rfl) (by rfl))))) (@bh _ _)) (@af _ _ _ _ _ _ _ _ (@cL _ _ _ _ _ _ _ _ _ _ _ (@rP _ _ _ _ (@yW _ _ _ _ _ _ _ _ (@aQ _ _ _ _ _ _ _ _ _ (@iS _ _ _ rfl hr) (¬4) (@cC _ _ _ _ _ ac) (aH _)) (@vX _ _ _ _ _ (@aQ _ _ _ _ _ _ _ _ _ (@iS _ _ _ rfl hr) (¬3) (@cC _ _ _ _ _ ac) (aH _))))) (@ar _ _ _ _ _ (@aE _ _ _ _ _ (@aC _ _ _ _ _))) (@bh _ _)) (@af _ _ _ _ _ _ _ _ (@cL _ _ _ _ _ _ _ _ _ _ _ (@aQ _ _ _ _ _ _ _ _ _ (@iS _ _ _ rfl hr) (¬4) (@cC _ _ _ _ _ ac) (aH _)) (@ar _ _ _ _ _ (@ij _ _ _ _ _ (@Ha _ _ _ _ _ _ rfl (¬3) (by rfl) (by rfl)) (by rfl))) (@bh _ _)) (@af _ _ _ _ _ _ _ _ (@ij _ _ _ _ _ (@FV _ _ _ _ _ _ rfl (¬4) (by rfl) (by rfl)) (by rfl)) (@ar _ _ _ _ _ (@aE _ _ _ _ _ (@aC _ _ _ _ _)))))))))))))
noncomputable def uR:FS:=(aU (bx 3 (dG 1 bO (aa (ab 0) ah))) (aU (bx 4 (aA dI (ab 2) (aA bK (ab 3) (aJ (g1 iT) (aa (ab 2) ah))))) (aU (jx (az (aA (bc true) (ab 4) (vC (.str ("ask":Str))))) (bw (ab 4)) cY) (aU (jx (az (aA (bc false) (aA dI (ab 1) (vC (.int 1))) (cN ah))) (bw (vC (.str ("yes":Str)))) cY) (bw (aA jl (vC (.str ("ask ":Str))) (aJ (g1 iU) (aa (aA bK (aA iF (ab 3) (vC (.int 64))) (aJ (g1 iT) (aa (aA dI (ab 1) (vC (.int 1))) ah))) ah))))))))
noncomputable def kZ:FM:=jf 3 2 ([3]++([4]++(([]++[])++(([]++[])++[])))) uR
theorem Ab:ay ["_law_drawn","_law_web_here","_law_menu","_law_number","_law_word"] ["_law_drawn","_law_web_here","_law_menu"] (aj rW):=⟨rfl,rfl,rfl,by decide+kernel,rfl,by decide+kernel,by decide+kernel⟩
theorem Fe(h:dO K mg "_law_line" rW f fd ["_law_drawn","_law_web_here","_law_menu"])(T:cA mg)(zLnext:Cl P w K mg base "_law_next" lu ["_law_drawn"] 1 1 bO):aG P w K mg base ck 2 f fd ["_law_drawn","_law_web_here","_law_menu"] (eu K 3 kZ):=by obtain⟨PM,PN,OE,OF⟩:=zLnext;have nd:=Ab.nd;exact h.fn Ab rfl rfl (λcdv A outer s H E hr=>(@af _ _ _ _ _ _ _ _ (@aS _ _ _ _ _ 3 _ _ nd rfl (Or.inl rfl) (@bP _ _ _ _ _ _ _ _ _ _ _ _ _ _ _ OE OF (hr.mono (by decide)) ((¬0)∘ac) (by rfl) (by decide) (by rfl) (by rfl)) (by rfl) (by trivial)) (@af _ _ _ _ _ _ _ _ (@aS _ _ _ _ _ 4 _ _ nd rfl (Or.inl rfl) (@cu _ _ _ _ _ _ _ rfl (¬2) (@bG _ _ _ _ _ _ _ (¬3) (@a_ _ _ _ _ _ _ _ _ _ (@b_len _ _ rfl) (by rfl) T.b_len ((¬2)∘ac) (by decide) (by decide) (by rfl) (by rfl))) (λ_ _=>rfl)) (by rfl) (by trivial)) (@af _ _ _ _ _ _ _ _ (@cL _ _ _ _ _ _ _ _ _ _ _ (@aQ _ _ _ _ _ _ _ _ _ (@ym _ _ _ rfl hr) (¬4) (@aC _ _ _ _ _) (aH _)) (@ar _ _ _ _ _ (@aE _ _ _ _ _ (¬4))) (@bh _ _)) (@af _ _ _ _ _ _ _ _ (@cL _ _ _ _ _ _ _ _ _ _ _ (@aQ _ _ _ _ _ _ _ _ _ (@iS _ _ _ rfl hr) (@cu _ _ _ _ _ _ _ rfl (¬1) ae (λ_ _=>rfl)) (@bH _ _ _ _ _ _ ac) (aH _)) (@ar _ _ _ _ _ (@aE _ _ _ _ _ (@aC _ _ _ _ _))) (@bh _ _)) (@ar _ _ _ _ _ (@aE _ _ _ _ _ (@vU _ _ _ _ _ _ _ (@aC _ _ _ _ _) (@a_ _ _ _ _ _ _ _ _ _ (@b_str _ _) (by rfl) T.b_str ((@bG _ _ _ _ _ _ _ (@lh _ _ _ _ _ _ _ (¬3) ae) (@a_ _ _ _ _ _ _ _ _ _ (@b_len _ _ rfl) (by rfl) T.b_len ((@cu _ _ _ _ _ _ _ rfl (¬1) ae (λ_ _=>rfl))∘ac) (by decide) (by decide) (by rfl) (by rfl)))∘ac) (by decide) (by decide) (by rfl) (by rfl))))))))))
noncomputable def cz:XS:=(aZ (cX (bz (iQ Kf (bT 0 "waiting") (aw (vC .none)))) (bD (aw (vC (.str ("NoAsk":Str))))) b_) (aZ (ou 2 (bT 0 "waiting")) (aZ (eX 0 "run" (iQ cP (bT 0 "run") (aw (cN (aa (cN (aa (ab 2) (aa (ab 1) ah))) ah))))) (aZ (eX 0 "waiting" (aw (vC .none))) (bD (zh (et (az (ab 1))) (Ea ("kept ":Str) (iQ dI (iQ dI (iQ dI (bT 0 "web") (aw (vC (.int 1)))) (aw (ab 2))) (aw (vC (.int 3))))) (aw (vC (.str ("gone":Str))))))))))
noncomputable def aV:MX:=cy 2 1 (([]++[])++([2]++([]++([]++[])))) (cz)
theorem gW:ay ["self","truth","tie"] ["self","truth"] (aj cK):=⟨rfl,rfl,rfl,by decide+kernel,rfl,by decide+kernel,by decide+kernel⟩
theorem lg{P:Rw}{w:Ro}{K:Rj}{C:xM}{mg:Str->Option Oq}{base:Ru}{f:xM}{fd:RD}(hF:wy K "take_answer" "Desk.take_answer" cK f fd)(T:cA mg)(cl:sP K C)(na_run:bQ K C "run")(na_waiting:bQ K C "waiting")(na_web:bQ K C "web"):aG P w K mg base ck 1 f fd ["self","truth"] (lY K C 2 (aV)):=by have nd:=gW.nd;exact hF.okY gW rfl rfl (λcdv A outer s H E hr=>(@aM _ _ _ _ _ _ _ _ _ (@fQ _ _ _ _ _ _ _ _ _ _ _ _ (@qu _ _ _ _ _ _ _ _ _ _ (@Ku _ _) (@cj _ _ _ _ 0 _ _ _ rfl cl na_waiting (@aN _ 0 _ _ (by rfl) (by first|exact Or.inl rfl|exact Or.inr (Or.inl rfl)|exact Or.inr (Or.inr rfl)) (by decide) (by decide)) (by rfl)) (@aq _ _ _ _ _ (@gP _ _ _ _)) (aH _)) (@aX _ _ _ _ _ _ (@b7 _ _ _ _ _ _ (@aq _ _ _ _ _ (@aC _ _ _ _ _)))) (@dh _ _ _)) (@aM _ _ _ _ _ _ _ _ _ (@vV _ _ _ _ _ _ 2 _ _ nd rfl (Or.inl rfl) (@cj _ _ _ _ 0 _ _ _ rfl cl na_waiting (@aN _ 0 _ _ (by rfl) (by first|exact Or.inl rfl|exact Or.inr (Or.inl rfl)|exact Or.inr (Or.inr rfl)) (by decide) (by decide)) (by rfl)) (by rfl) (by trivial)) (@aM _ _ _ _ _ _ _ _ _ (@iZ _ _ _ _ _ _ 0 _ _ _ _ rfl cl na_run (@aN _ 0 _ _ (by rfl) (by first|exact Or.inl rfl|exact Or.inr (Or.inl rfl)|exact Or.inr (Or.inr rfl)) (by decide) (by decide)) (@Jy _ _ _ _ _ _ _ _ rfl (@cj _ _ _ _ 0 _ _ _ rfl cl na_run (@aN _ 0 _ _ (by rfl) (by first|exact Or.inl rfl|exact Or.inr (Or.inl rfl)|exact Or.inr (Or.inr rfl)) (by decide) (by decide)) (by rfl)) (@aq _ _ _ _ _ (@bH _ _ _ _ _ _ ((@bH _ _ _ _ _ _ ((¬2)∘((¬1)∘ac)))∘ac)))) (by rfl)) (@aM _ _ _ _ _ _ _ _ _ (@iZ _ _ _ _ _ _ 0 _ _ _ _ rfl cl na_waiting (@aN _ 0 _ _ (by rfl) (by first|exact Or.inl rfl|exact Or.inr (Or.inl rfl)|exact Or.inr (Or.inr rfl)) (by decide) (by decide)) (@aq _ _ _ _ _ (@gP _ _ _ _)) (by rfl)) (@aX _ _ _ _ _ _ (@b7 _ _ _ _ _ _ (@um _ _ _ _ _ _ _ _ _ _ (@iK _ _ _ _ _ (@iL _ _ _ _ (¬1) (by intro _;rfl))) (@Lh _ _ _ _ _ _ _ _ _ _ (@C_ _ _ _ _ _ _ _ _ rfl (@C_ _ _ _ _ _ _ _ _ rfl (@C_ _ _ _ _ _ _ _ _ rfl (@cj _ _ _ _ 0 _ _ _ rfl cl na_web (@aN _ 0 _ _ (by rfl) (by first|exact Or.inl rfl|exact Or.inr (Or.inl rfl)|exact Or.inr (Or.inr rfl)) (by decide) (by decide)) (by rfl)) (@aq _ _ _ _ _ ae) (λ_ _=>rfl)) (@aq _ _ _ _ _ (¬2)) (λ_ _=>rfl)) (@aq _ _ _ _ _ ae) (λ_ _=>rfl))) (@aq _ _ _ _ _ (@aC _ _ _ _ _))))))))))
noncomputable def cQ:XS:=(aZ (cX (bz (iQ mx (bT 0 "waiting") (aw (vC .none)))) (eX 0 "waiting" (aw (vC .none))) (cX (bz (iQ GY (pz (g1 iT) (bS (bT 0 "run") gX)) (aw (vC (.int 0))))) (eX 0 "run" (GD (bT 0 "run") none (some (-1)))) (bD (aw (vC (.str ("NoAsk":Str))))))) (bD (aw (vC (.str ("back":Str))))))
noncomputable def bB:MX:=cy 1 0 (([]++([]++[]))++[]) (cQ)
theorem i0:ay ["self"] ["self"] (aj dC):=⟨rfl,rfl,rfl,by decide+kernel,rfl,by decide+kernel,by decide+kernel⟩
theorem my{P:Rw}{w:Ro}{K:Rj}{C:xM}{mg:Str->Option Oq}{base:Ru}{f:xM}{fd:RD}(hF:wy K "take_back" "Desk.take_back" dC f fd)(T:cA mg)(cl:sP K C)(na_run:bQ K C "run")(na_waiting:bQ K C "waiting"):aG P w K mg base ck 1 f fd ["self"] (lY K C 1 (bB)):=by have nd:=i0.nd;exact hF.okY i0 rfl rfl (λcdv A outer s H E hr=>(@aM _ _ _ _ _ _ _ _ _ (@fQ _ _ _ _ _ _ _ _ _ _ _ _ (@qu _ _ _ _ _ _ _ _ _ _ (@uV _ _) (@cj _ _ _ _ 0 _ _ _ rfl cl na_waiting (@aN _ 0 _ _ (by rfl) (by first|exact Or.inl rfl|exact Or.inr (Or.inl rfl)|exact Or.inr (Or.inr rfl)) (by decide) (by decide)) (by rfl)) (@aq _ _ _ _ _ (@gP _ _ _ _)) (aH _)) (@aX _ _ _ _ _ _ (@iZ _ _ _ _ _ _ 0 _ _ _ _ rfl cl na_waiting (@aN _ 0 _ _ (by rfl) (by first|exact Or.inl rfl|exact Or.inr (Or.inl rfl)|exact Or.inr (Or.inr rfl)) (by decide) (by decide)) (@aq _ _ _ _ _ (@gP _ _ _ _)) (by rfl))) (@aX _ _ _ _ _ _ (@fQ _ _ _ _ _ _ _ _ _ _ _ _ (@qu _ _ _ _ _ _ _ _ _ _ (@BE _ _) (@Jz _ _ _ _ _ _ _ _ _ (@b_len _ _ rfl) (by rfl) T.b_len (@ma _ _ _ _ _ _ _ (@cj _ _ _ _ 0 _ _ _ rfl cl na_run (@aN _ 0 _ _ (by rfl) (by first|exact Or.inl rfl|exact Or.inr (Or.inl rfl)|exact Or.inr (Or.inr rfl)) (by decide) (by decide)) (by rfl)) (@n_ _ _ _) (by rfl)) (by decide) (by decide) _ (by rfl) (by rfl)) (@aq _ _ _ _ _ ae) (aH _)) (@aX _ _ _ _ _ _ (@iZ _ _ _ _ _ _ 0 _ _ _ _ rfl cl na_run (@aN _ 0 _ _ (by rfl) (by first|exact Or.inl rfl|exact Or.inr (Or.inl rfl)|exact Or.inr (Or.inr rfl)) (by decide) (by decide)) (@Dc _ _ _ _ _ _ _ _ _ none (some (-1)) rfl (@cj _ _ _ _ 0 _ _ _ rfl cl na_run (@aN _ 0 _ _ (by rfl) (by first|exact Or.inl rfl|exact Or.inr (Or.inl rfl)|exact Or.inr (Or.inr rfl)) (by decide) (by decide)) (by rfl)) (@j7 _ _) (@j8 _ _ _ _ (@Lj _ _ _ _ _ ae))) (by rfl))) (@aX _ _ _ _ _ _ (@b7 _ _ _ _ _ _ (@aq _ _ _ _ _ (@aC _ _ _ _ _))))))) (@aX _ _ _ _ _ _ (@b7 _ _ _ _ _ _ (@aq _ _ _ _ _ (@aC _ _ _ _ _))))))
noncomputable def dr:XS:=(aZ (cX (wq (bz (iQ mx (bT 0 "waiting") (aw (vC .none)))) (fj (bz (pA 3 dB (bS (bT 0 "web") (bS (pA 2 b5 (bS (bT 0 "web") (bS (bT 0 "run") gX))) (bS (aw (ab 1)) gX))))))) (bD (aw (vC (.str ("NoAsk":Str))))) b_) (aZ (eX 0 "waiting" (aw (ab 1))) (bD (aw (vC (.str ("asked":Str)))))))
noncomputable def br:MX:=cy 2 0 (([]++[])++([]++[])) (dr)
theorem jC:ay ["self","tie"] ["self","tie"] (aj d9):=⟨rfl,rfl,rfl,by decide+kernel,rfl,by decide+kernel,by decide+kernel⟩
theorem nR{P:Rw}{w:Ro}{K:Rj}{C:xM}{mg:Str->Option Oq}{base:Ru}{f:xM}{fd:RD}(hF:wy K "take_ask" "Desk.take_ask" d9 f fd)(T:cA mg){Pp:xM}{Pq:RD}(OO:dO K mg "may_ask" iA Pp Pq ["web","stand","tie"])(OU:aG P w K mg base ck 4 Pp Pq ["web","stand","tie"] (eu K 3 dB)){OR:xM}{OS:RD}(OA:dO K mg "stand_of_run" cE OR OS ["web","run"])(OC:aG P w K mg base ck 3 OR OS ["web","run"] (eu K 2 b5))(cl:sP K C)(na_run:bQ K C "run")(na_waiting:bQ K C "waiting")(na_web:bQ K C "web"):aG P w K mg base ck 5 f fd ["self","tie"] (lY K C 2 (br)):=by have nd:=jC.nd;exact hF.okY jC rfl rfl (λcdv A outer s H E hr=>(@aM _ _ _ _ _ _ _ _ _ (@fQ _ _ _ _ _ _ _ _ _ _ _ _ (@He _ _ _ _ _ (@Dq _ _ _ _ _ _ _ _ _ (@qu _ _ _ _ _ _ _ _ _ _ (@uV _ _) (@cj _ _ _ _ 0 _ _ _ rfl cl na_waiting (@aN _ 0 _ _ (by rfl) (by first|exact Or.inl rfl|exact Or.inr (Or.inl rfl)|exact Or.inr (Or.inr rfl)) (by decide) (by decide)) (by rfl)) (@aq _ _ _ _ _ (@gP _ _ _ _)) (aH _)) (@zS _ _ _ _ _ _ (@j9 _ _ _ _ _ _ (@j_ _ _ _ _ _ (@JA _ _ _ _ _ _ _ _ _ _ _ _ _ _ _ _ OO OU (hr.mono (by decide)) (@ma _ _ _ _ _ _ _ (@cj _ _ _ _ 0 _ _ _ rfl cl na_web (@aN _ 0 _ _ (by rfl) (by first|exact Or.inl rfl|exact Or.inr (Or.inl rfl)|exact Or.inr (Or.inr rfl)) (by decide) (by decide)) (by rfl)) (@ma _ _ _ _ _ _ _ (@JA _ _ _ _ _ _ _ _ _ _ _ _ _ _ _ _ OA OC (hr.mono (by decide)) (@ma _ _ _ _ _ _ _ (@cj _ _ _ _ 0 _ _ _ rfl cl na_web (@aN _ 0 _ _ (by rfl) (by first|exact Or.inl rfl|exact Or.inr (Or.inl rfl)|exact Or.inr (Or.inr rfl)) (by decide) (by decide)) (by rfl)) (@ma _ _ _ _ _ _ _ (@cj _ _ _ _ 0 _ _ _ rfl cl na_run (@aN _ 0 _ _ (by rfl) (by first|exact Or.inl rfl|exact Or.inr (Or.inl rfl)|exact Or.inr (Or.inr rfl)) (by decide) (by decide)) (by rfl)) (@n_ _ _ _) (by rfl)) (by rfl)) (by rfl) (by decide) (by rfl) (by rfl)) (@ma _ _ _ _ _ _ _ (@aq _ _ _ _ _ (¬1)) (@n_ _ _ _) (by rfl)) (by rfl)) (by rfl)) (by rfl) (by decide) (by rfl) (by rfl)) (by intro _;rfl)))))) (@aX _ _ _ _ _ _ (@b7 _ _ _ _ _ _ (@aq _ _ _ _ _ (@aC _ _ _ _ _)))) (@dh _ _ _)) (@aM _ _ _ _ _ _ _ _ _ (@iZ _ _ _ _ _ _ 0 _ _ _ _ rfl cl na_waiting (@aN _ 0 _ _ (by rfl) (by first|exact Or.inl rfl|exact Or.inr (Or.inl rfl)|exact Or.inr (Or.inr rfl)) (by decide) (by decide)) (@aq _ _ _ _ _ (¬1)) (by rfl)) (@aX _ _ _ _ _ _ (@b7 _ _ _ _ _ _ (@aq _ _ _ _ _ (@aC _ _ _ _ _)))))))
def Kj:List Str:=["may","best","bound","kept"]
noncomputable def qs:List (Str×FM):=[("may",ef),("kept",dg)]
noncomputable def dc:XS:=(aZ (cX (et (mL (az (ww (AG "str") (ab 1))))) (bD (aw (vC (.str ("NoWord":Str))))) b_) (aZ (cX (et (az (aA (yf false) (ab 1) (cN (aa (vC (.str ("yes":Str))) (aa (vC (.str ("no":Str))) ah)))))) (bD (ba 2 aV (lZ 0 "take_answer" (bA (aw (aA (bc false) (ab 1) (vC (.str ("yes":Str))))) cc)))) b_) (aZ (cX (et (az (aA (bc false) (ab 1) (vC (.str ("back":Str)))))) (bD (ba 1 bB (lZ 0 "take_back" cc))) b_) (aZ (cX (et (Ba Kj (ab 1))) (xH 0 1 2 qs) b_) (aZ (ou 3 (pA 2 eQ (bS (bT 0 "web") (bS (aw (ab 1)) gX)))) (bD (zh (et (az (aA Kf (ab 3) (vC .none)))) (aw (vC (.str ("NoWord":Str)))) (ba 2 br (lZ 0 "take_ask" (bA (aw (ab 3)) cc))))))))))
noncomputable def a9:MX:=cy 2 2 (([]++[])++(([]++[])++(([]++[])++(([2]++[])++([3]++[]))))) (dc)
theorem pX:ay ["self","line","question","tie"] ["self","line"] (aj kb):=⟨rfl,rfl,rfl,by decide+kernel,rfl,by decide+kernel,by decide+kernel⟩
theorem vM{P:Rw}{w:Ro}{K:Rj}{C:xM}{mg:Str->Option Oq}{base:Ru}{f:xM}{fd:RD}(hF:wy K "say" "Desk.say" kb f fd)(T:cA mg){Ph:xM}{Pi:RD}(OJ:dO K mg "tie_to_ask" eY Ph Pi ["web","line"])(OQ:aG P w K mg base ck 2 Ph Pi ["web","line"] (eu K 2 eQ)){f_Desk_take_answer:xM}{e_Desk_take_answer:RD}(me_Desk_take_answer:oK K C "take_answer" f_Desk_take_answer)(B_Desk_take_answer:ez K e_Desk_take_answer ["self","truth"] [])(G_Desk_take_answer:aG P w K mg base ck 1 f_Desk_take_answer e_Desk_take_answer ["self","truth"] (lY K C 2 aV)){f_Desk_take_back:xM}{e_Desk_take_back:RD}(me_Desk_take_back:oK K C "take_back" f_Desk_take_back)(B_Desk_take_back:ez K e_Desk_take_back ["self"] [])(G_Desk_take_back:aG P w K mg base ck 1 f_Desk_take_back e_Desk_take_back ["self"] (lY K C 1 bB)){O_:xM}{PD:RD}(OM:dO K mg "may_line" iO O_ PD ["web","run"])(Pa:aG P w K mg base ck 6 O_ PD ["web","run"] (eu K 2 ef)){OZ:xM}{Pt:RD}(OH:dO K mg "kept_line" gJ OZ Pt ["web","run"])(O0:aG P w K mg base ck 3 OZ Pt ["web","run"] (eu K 2 dg)){f_Desk_take_ask:xM}{e_Desk_take_ask:RD}(me_Desk_take_ask:oK K C "take_ask" f_Desk_take_ask)(B_Desk_take_ask:ez K e_Desk_take_ask ["self","tie"] [])(G_Desk_take_ask:aG P w K mg base ck 5 f_Desk_take_ask e_Desk_take_ask ["self","tie"] (lY K C 2 br))(cl:sP K C)(na_run:bQ K C "run")(na_web:bQ K C "web"){qa:xM}{ms:List (Str×xM)}(TQ:J' K w qa ms)(hks:ms.map (·.1)=Kj)(mQ:mg "QUESTIONS"=some (.ref qa))(a_may:ms.lookup ("may":Str)=some O_)(a_kept:ms.lookup ("kept":Str)=some OZ):aG P w K mg base ck 7 f fd ["self","line"] (lY K C 2 (a9)):=by have nd:=pX.nd;exact hF.okY pX rfl rfl (λcdv A outer s H E hr=>have hQ:∀(u:Str) (m:FM),qs.lookup u=some m->∃f,ms.lookup u=some f/\Mw _ 6 f m:=(λu m hm=>by
 unfold qs at hm;rw[Sm]at hm;by_cases c0:u="may";·subst c0;rw[show(("may":Str)=="may")=true from by decide]at hm;cases hm;exact⟨O_,a_may,_,_,Pa.mono (by decide),OM.b,OM.F.kp⟩
 rw[show(u=="may")=false from beq_eq_false_iff_ne.mpr c0]at hm;rw[Sm]at hm;by_cases c1:u="kept";·subst c1;rw[show(("kept":Str)=="kept")=true from by decide]at hm;cases hm;exact⟨OZ,a_kept,_,_,O0.mono (by decide),OH.b,OH.F.kp⟩
 rw[show(u=="kept")=false from beq_eq_false_iff_ne.mpr c1]at hm;cases hm);(@aM _ _ _ _ _ _ _ _ _ (@fQ _ _ _ _ _ _ _ _ _ _ _ _ (@iK _ _ _ _ _ (@yV _ _ _ _ _ (@iL _ _ _ _ (@G' _ _ _ _ _ _ _ _ "str" rfl (by decide) rfl T.b_isinstance rfl T.b_str Wf (by decide) (by decide) (¬1) (by rfl) (by rfl)) (by intro _;rfl)))) (@aX _ _ _ _ _ _ (@b7 _ _ _ _ _ _ (@aq _ _ _ _ _ (@aC _ _ _ _ _)))) (@dh _ _ _)) (@aM _ _ _ _ _ _ _ _ _ (@fQ _ _ _ _ _ _ _ _ _ _ _ _ (@iK _ _ _ _ _ (@aQ _ _ _ _ _ _ _ _ _ (@Av _ _ _ rfl hr) (¬1) (@bH _ _ _ _ _ _ ((@aC _ _ _ _ _)∘((@aC _ _ _ _ _)∘ac))) (by with_unfolding_all rfl))) (@aX _ _ _ _ _ _ (@b7 _ _ _ _ _ _ (@vT _ _ _ _ _ _ _ _ _ 0 _ _ _ _ _ _ _ _ _ rfl (@aN _ 0 _ _ (by rfl) (by first|exact Or.inl rfl|exact Or.inr (Or.inl rfl)|exact Or.inr (Or.inr rfl)) (by decide) (by decide)) cl me_Desk_take_answer G_Desk_take_answer (hr.mono (by decide)) B_Desk_take_answer (@cM _ _ _ _ _ _ _ (@aq _ _ _ _ _ (@rK _ _ _ _ _ _ _ _ _ (@iS _ _ _ rfl hr) (¬1) (@aC _ _ _ _ _) (aH _))) (@cV _ _ _) (by rfl)) (by rfl) (by rfl) (by rfl)))) (@dh _ _ _)) (@aM _ _ _ _ _ _ _ _ _ (@fQ _ _ _ _ _ _ _ _ _ _ _ _ (@iK _ _ _ _ _ (@aQ _ _ _ _ _ _ _ _ _ (@iS _ _ _ rfl hr) (¬1) (@aC _ _ _ _ _) (aH _))) (@aX _ _ _ _ _ _ (@b7 _ _ _ _ _ _ (@Da _ _ _ _ _ _ 0 _ _ _ _ _ _ _ _ _ rfl (@aN _ 0 _ _ (by rfl) (by first|exact Or.inl rfl|exact Or.inr (Or.inl rfl)|exact Or.inr (Or.inr rfl)) (by decide) (by decide)) cl me_Desk_take_back G_Desk_take_back (hr.mono (by decide)) B_Desk_take_back (by rfl)))) (@dh _ _ _)) (@aM _ _ _ _ _ _ _ _ _ (@fQ _ _ _ _ _ _ _ _ _ _ _ _ (@iK _ _ _ _ _ (@JF _ _ _ _ _ _ _ _ _ _ rfl TQ hks (¬1) rfl mQ (by decide) (by with_unfolding_all rfl))) (@Do _ _ _ _ _ _ _ _ 0 1 2 _ _ _ _ _ _ _ _ _ _ _ _ rfl TQ hr hQ rfl mQ (by decide) (@aN _ 1 _ _ (by rfl) (by first|exact Or.inl rfl|exact Or.inr (Or.inl rfl)|exact Or.inr (Or.inr rfl)) (by decide) (by decide)) nd rfl (Or.inl rfl) (by rfl) (by trivial) (@aN _ 2 _ _ (by rfl) (by first|exact Or.inl rfl|exact Or.inr (Or.inl rfl)|exact Or.inr (Or.inr rfl)) (by decide) (by decide)) (@ma _ _ _ _ _ _ _ (@cj _ _ _ _ 0 _ _ _ rfl cl na_web (@aN _ 0 _ _ (by rfl) (by first|exact Or.inl rfl|exact Or.inr (Or.inl rfl)|exact Or.inr (Or.inr rfl)) (by decide) (by decide)) (by rfl)) (@ma _ _ _ _ _ _ _ (@cj _ _ _ _ 0 _ _ _ rfl cl na_run (@aN _ 0 _ _ (by rfl) (by first|exact Or.inl rfl|exact Or.inr (Or.inl rfl)|exact Or.inr (Or.inr rfl)) (by decide) (by decide)) (by rfl)) (@n_ _ _ _) (by rfl)) (by rfl)) (by rfl) (by rfl)) (@dh _ _ _)) (@aM _ _ _ _ _ _ _ _ _ (@vV _ _ _ _ _ _ 3 _ _ nd rfl (Or.inl rfl) (@JA _ _ _ _ _ _ _ _ _ _ _ _ _ _ _ _ OJ OQ (hr.mono (by decide)) (@ma _ _ _ _ _ _ _ (@cj _ _ _ _ 0 _ _ _ rfl cl na_web (@aN _ 0 _ _ (by rfl) (by first|exact Or.inl rfl|exact Or.inr (Or.inl rfl)|exact Or.inr (Or.inr rfl)) (by decide) (by decide)) (by rfl)) (@ma _ _ _ _ _ _ _ (@aq _ _ _ _ _ (¬1)) (@n_ _ _ _) (by rfl)) (by rfl)) (by rfl) (by decide) (by rfl) (by rfl)) (by rfl) (by trivial)) (@aX _ _ _ _ _ _ (@b7 _ _ _ _ _ _ (@um _ _ _ _ _ _ _ _ _ _ (@iK _ _ _ _ _ (@aQ _ _ _ _ _ _ _ _ _ (@Ku _ _) (¬3) (@gP _ _ _ _) (aH _))) (@aq _ _ _ _ _ (@aC _ _ _ _ _)) (@vT _ _ _ _ _ _ _ _ _ 0 _ _ _ _ _ _ _ _ _ rfl (@aN _ 0 _ _ (by rfl) (by first|exact Or.inl rfl|exact Or.inr (Or.inl rfl)|exact Or.inr (Or.inr rfl)) (by decide) (by decide)) cl me_Desk_take_ask G_Desk_take_ask (hr.mono (by decide)) B_Desk_take_ask (@cM _ _ _ _ _ _ _ (@aq _ _ _ _ _ (¬3)) (@cV _ _ _) (by rfl)) (by rfl) (by rfl) (by rfl)))))))))))
noncomputable def zy:XS:=(aZ (ou 3 (ba 2 a9 (lZ 0 "say" (bA (aw (ab 1)) cc)))) (bD (aw (jH (ww (AG "str") (ab 3)) (aA (bc false) (ab 3) (ab 2))))))
noncomputable def cT:MX:=cy 3 1 ([3]++[]) (zy)
theorem Ae:ay ["_law_desk","_law_line_here","_law_due_here","_law_found"] ["_law_desk","_law_line_here","_law_due_here"] (aj pk):=⟨rfl,rfl,rfl,by decide+kernel,rfl,by decide+kernel,by decide+kernel⟩
theorem CM{P:Rw}{w:Ro}{K:Rj}{C:xM}{mg:Str->Option Oq}{base:Ru}{f:xM}{fd:RD}(h:dO K mg "_law_told" pk f fd ["_law_desk","_law_line_here","_law_due_here"])(T:cA mg){f_Desk_say:xM}{e_Desk_say:RD}(me_Desk_say:oK K C "say" f_Desk_say)(B_Desk_say:ez K e_Desk_say ["self","line"] [])(G_Desk_say:aG P w K mg base ck 7 f_Desk_say e_Desk_say ["self","line"] (lY K C 2 a9))(cl:sP K C):aG P w K mg base ck 8 f fd ["_law_desk","_law_line_here","_law_due_here"] (lY K C 3 (cT)):=by have nd:=Ae.nd;exact h.F.okY Ae rfl rfl (λcdv A outer s H E hr=>(@aM _ _ _ _ _ _ _ _ _ (@vV _ _ _ _ _ _ 3 _ _ nd rfl (Or.inl rfl) (@vT _ _ _ _ _ _ _ _ _ 0 _ _ _ _ _ _ _ _ _ rfl (@aN _ 0 _ _ (by rfl) (by first|exact Or.inl rfl|exact Or.inr (Or.inl rfl)|exact Or.inr (Or.inr rfl)) (by decide) (by decide)) cl me_Desk_say G_Desk_say (hr.mono (by decide)) B_Desk_say (@cM _ _ _ _ _ _ _ (@aq _ _ _ _ _ (¬1)) (@cV _ _ _) (by rfl)) (by rfl) (by rfl) (by rfl)) (by rfl) (by trivial)) (@aX _ _ _ _ _ _ (@b7 _ _ _ _ _ _ (@aq _ _ _ _ _ (@Dg _ _ _ _ _ _ _ _ (@G' _ _ _ _ _ _ _ _ "str" rfl (by decide) rfl T.b_isinstance rfl T.b_str Wf (by decide) (by decide) (¬3) (by rfl) (by rfl)) (@Dj _ _ _ _ _ _ (@rK _ _ _ _ _ _ _ _ _ (@iS _ _ _ rfl hr) (¬3) (¬2) (aH _)))))))))
noncomputable def wG:XS:=(aZ (cX (fj (bz (ba 3 cT (l4 0 (bA (aw (ab 3)) (bA (ba 3 bL (bA (aw (ab 1)) (l4 2 (bA (aw (ab 3)) cc)))) cc)))))) (bD (aw (vC (.bool false)))) b_) (bD (wk (ba 3 cT (l4 0 (bA (aw (vC (.str ("may":Str)))) (bA (ba 3 bL (bA (aw (ab 1)) (l4 2 (bA (aw (vC (.str ("may":Str)))) cc)))) cc)))) (ba 3 cT (l4 0 (bA (aw (vC (.str ("kept":Str)))) (bA (ba 3 bL (bA (aw (ab 1)) (l4 2 (bA (aw (vC (.str ("kept":Str)))) cc)))) cc)))))))
noncomputable def iI:MX:=cy 4 0 (([]++[])++[]) (wG)
theorem xS:ay ["_law_desk","_law_web_here","_law_state","_law_line_here"] ["_law_desk","_law_web_here","_law_state","_law_line_here"] (aj oo):=⟨rfl,rfl,rfl,by decide+kernel,rfl,by decide+kernel,by decide+kernel⟩
theorem AV{P:Rw}{w:Ro}{K:Rj}{C:xM}{mg:Str->Option Oq}{base:Ru}{f:xM}{fd:RD}(h:dO K mg "_law_right" oo f fd ["_law_desk","_law_web_here","_law_state","_law_line_here"])(T:cA mg){PU:xM}{PV:RD}(O8:dO K mg "_law_told" pk PU PV ["_law_desk","_law_line_here","_law_due_here"])(Pb:aG P w K mg base ck 8 PU PV ["_law_desk","_law_line_here","_law_due_here"] (lY K C 3 cT)){Qi:xM}{Qj:RD}(PH:dO K mg "_law_due" uo Qi Qj ["_law_web_here","_law_state","_law_line_here"])(PX:aG P w K mg base ck 4 Qi Qj ["_law_web_here","_law_state","_law_line_here"] (lY K C 3 bL)):aG P w K mg base ck 9 f fd ["_law_desk","_law_web_here","_law_state","_law_line_here"] (lY K C 4 (iI)):=by have nd:=xS.nd;exact h.F.okY xS rfl rfl (λcdv A outer s H E hr=>(@aM _ _ _ _ _ _ _ _ _ (@fQ _ _ _ _ _ _ _ _ _ _ _ _ (@j9 _ _ _ _ _ _ (@j_ _ _ _ _ _ (@eS _ _ _ _ _ _ _ _ _ _ _ _ _ _ _ _ O8 Pb (hr.mono (by decide)) (@lp _ _ _ _ _ _ 0 (@aN _ 0 _ _ (by rfl) (by first|exact Or.inl rfl|exact Or.inr (Or.inl rfl)|exact Or.inr (Or.inr rfl)) (by decide) (by decide)) (@cM _ _ _ _ _ _ _ (@aq _ _ _ _ _ (¬3)) (@cM _ _ _ _ _ _ _ (@eS _ _ _ _ _ _ _ _ _ _ _ _ _ _ _ _ PH PX (hr.mono (by decide)) (@cM _ _ _ _ _ _ _ (@aq _ _ _ _ _ (¬1)) (@lp _ _ _ _ _ _ 2 (@aN _ 2 _ _ (by rfl) (by first|exact Or.inl rfl|exact Or.inr (Or.inl rfl)|exact Or.inr (Or.inr rfl)) (by decide) (by decide)) (@cM _ _ _ _ _ _ _ (@aq _ _ _ _ _ (¬3)) (@cV _ _ _) (by rfl)) (by rfl)) (by rfl)) (by rfl) (by decide) (by rfl) (by rfl)) (@cV _ _ _) (by rfl)) (by rfl)) (by rfl)) (by rfl) (by decide) (by rfl) (by rfl)) (by intro _;rfl))) (@aX _ _ _ _ _ _ (@b7 _ _ _ _ _ _ (@aq _ _ _ _ _ (@md _ _ _ _ _)))) (@dh _ _ _)) (@aX _ _ _ _ _ _ (@b7 _ _ _ _ _ _ (@FY _ _ _ _ _ _ _ _ _ (@eS _ _ _ _ _ _ _ _ _ _ _ _ _ _ _ _ O8 Pb (hr.mono (by decide)) (@lp _ _ _ _ _ _ 0 (@aN _ 0 _ _ (by rfl) (by first|exact Or.inl rfl|exact Or.inr (Or.inl rfl)|exact Or.inr (Or.inr rfl)) (by decide) (by decide)) (@cM _ _ _ _ _ _ _ (@aq _ _ _ _ _ (@aC _ _ _ _ _)) (@cM _ _ _ _ _ _ _ (@eS _ _ _ _ _ _ _ _ _ _ _ _ _ _ _ _ PH PX (hr.mono (by decide)) (@cM _ _ _ _ _ _ _ (@aq _ _ _ _ _ (¬1)) (@lp _ _ _ _ _ _ 2 (@aN _ 2 _ _ (by rfl) (by first|exact Or.inl rfl|exact Or.inr (Or.inl rfl)|exact Or.inr (Or.inr rfl)) (by decide) (by decide)) (@cM _ _ _ _ _ _ _ (@aq _ _ _ _ _ (@aC _ _ _ _ _)) (@cV _ _ _) (by rfl)) (by rfl)) (by rfl)) (by rfl) (by decide) (by rfl) (by rfl)) (@cV _ _ _) (by rfl)) (by rfl)) (by rfl)) (by rfl) (by decide) (by rfl) (by rfl)) (@Df _ _ _ _ _ _ (@eS _ _ _ _ _ _ _ _ _ _ _ _ _ _ _ _ O8 Pb (hr.mono (by decide)) (@lp _ _ _ _ _ _ 0 (@aN _ 0 _ _ (by rfl) (by first|exact Or.inl rfl|exact Or.inr (Or.inl rfl)|exact Or.inr (Or.inr rfl)) (by decide) (by decide)) (@cM _ _ _ _ _ _ _ (@aq _ _ _ _ _ (@aC _ _ _ _ _)) (@cM _ _ _ _ _ _ _ (@eS _ _ _ _ _ _ _ _ _ _ _ _ _ _ _ _ PH PX (hr.mono (by decide)) (@cM _ _ _ _ _ _ _ (@aq _ _ _ _ _ (¬1)) (@lp _ _ _ _ _ _ 2 (@aN _ 2 _ _ (by rfl) (by first|exact Or.inl rfl|exact Or.inr (Or.inl rfl)|exact Or.inr (Or.inr rfl)) (by decide) (by decide)) (@cM _ _ _ _ _ _ _ (@aq _ _ _ _ _ (@aC _ _ _ _ _)) (@cV _ _ _) (by rfl)) (by rfl)) (by rfl)) (by rfl) (by decide) (by rfl) (by rfl)) (@cV _ _ _) (by rfl)) (by rfl)) (by rfl)) (by rfl) (by decide) (by rfl) (by rfl))))))))
noncomputable def jj:XS:=(aZ (eX 0 "web" (aw (ab 1))) (aZ (eX 0 "run" (aw (cN ah))) (eX 0 "waiting" (aw (vC .none)))))
noncomputable def bo:MX:=cy 2 0 ([]++([]++[])) (jj)
theorem jB:ay ["self","web"] ["self","web"] (aj dZ):=⟨rfl,rfl,rfl,by decide+kernel,rfl,by decide+kernel,by decide+kernel⟩
theorem nQ{P:Rw}{w:Ro}{K:Rj}{C:xM}{mg:Str->Option Oq}{base:Ru}{f:xM}{fd:RD}(hF:wy K "__init__" "Desk.__init__" dZ f fd)(T:cA mg)(cl:sP K C)(na_run:bQ K C "run")(na_waiting:bQ K C "waiting")(na_web:bQ K C "web"):aG P w K mg base ck 1 f fd ["self","web"] (lY K C 2 (bo)):=by have nd:=jB.nd;exact hF.okY jB rfl rfl (λcdv A outer s H E hr=>(@aM _ _ _ _ _ _ _ _ _ (@iZ _ _ _ _ _ _ 0 _ _ _ _ rfl cl na_web (@aN _ 0 _ _ (by rfl) (by first|exact Or.inl rfl|exact Or.inr (Or.inl rfl)|exact Or.inr (Or.inr rfl)) (by decide) (by decide)) (@aq _ _ _ _ _ (¬1)) (by rfl)) (@aM _ _ _ _ _ _ _ _ _ (@iZ _ _ _ _ _ _ 0 _ _ _ _ rfl cl na_run (@aN _ 0 _ _ (by rfl) (by first|exact Or.inl rfl|exact Or.inr (Or.inl rfl)|exact Or.inr (Or.inr rfl)) (by decide) (by decide)) (@aq _ _ _ _ _ (@bH _ _ _ _ _ _ ac)) (by rfl)) (@aX _ _ _ _ _ _ (@iZ _ _ _ _ _ _ 0 _ _ _ _ rfl cl na_waiting (@aN _ 0 _ _ (by rfl) (by first|exact Or.inl rfl|exact Or.inr (Or.inl rfl)|exact Or.inr (Or.inr rfl)) (by decide) (by decide)) (@aq _ _ _ _ _ (@gP _ _ _ _)) (by rfl))))))
noncomputable def MN:FI:=(kW (ab 2))
noncomputable def MO:FI:=(eP (aa (vC (.int 40)) ah))
noncomputable def Kq:XS:=(aZ (ek [6] (bx 6 (aA bK (dG 1 bO (aa (ab 1) ah)) (vC (.int 2))))) (aZ (ek [7] (bx 7 (dG 3 kZ (aa (ab 1) (aa (aA dI (ab 2) (ab 6)) (aa (dq (aa (vC (.str ("ask":Str))) (aa (vC (.str ("yes":Str))) (aa (vC (.str ("ask":Str))) (aa (vC (.str ("no":Str))) (aa (vC (.str ("back":Str))) ah)))))) ah)))))) (cX (fj (bz (ba 4 iI (ya 3 (ab 6) (bA (aw (aA dI (ab 2) (ab 6))) (ya 4 (ab 6) (bA (aw (ab 7)) cc))))))) (bD (aw (vC (.bool false)))) b_)))
noncomputable def Kd:XT:=(Gs 10 (et (tF (az (aA (bc true) (aA dI (ab 10) (vC (.int 0))) (dq ah))) (az (aA (bc true) (aA dI (ab 10) (vC (.int 1))) (dq ah))))))
noncomputable def Kb:XS:=(cX (fj (bz (ba 4 iI (l4 8 (bA (aw (ab 9)) (l4 10 (bA (aw (vC (.str ("back":Str)))) cc))))))) (bD (aw (vC (.bool false)))) b_)
noncomputable def Kc:XS:=(aZ (v0 (2^4200) Kd Kb) (aZ (cX (wq (fj (bz (ba 3 cT (l4 8 (bA (aw (vC (.str ("back":Str)))) (bA (aw (vC (.str ("NoAsk":Str)))) cc)))))) (fj (bz (ba 3 cT (l4 8 (bA (aw (vC (.str ("kept":Str)))) (bA (aw (vC (.str ("none 0":Str)))) cc))))))) (bD (aw (vC (.bool false)))) b_) (cX (fj (bz (ba 3 cT (l4 8 (bA (aw (vC (.str ("may":Str)))) (bA (sJ 3 bL (BU (aw (ab 9)) (EH IW (BU (aw (vC (.str ("may":Str)))) MI)))) cc)))))) (bD (aw (vC (.bool false)))) b_)))
noncomputable def uT:XS:=(aZ (ek [1] (bx 1 (dG 1 lK (aa (ab 0) ah)))) (aZ (ek [2] (bx 2 (dq (aa (dG 3 pT (aa (ab 1) (aa (vC (.int 12)) (aa (vC (.int 16)) ah)))) (aa (dG 3 pT (aa (ab 1) (aa (vC (.int 12)) (aa (vC (.int 16)) ah)))) ah))))) (aZ (xI 3 MN (Kg bo (aw (ab 0)))) (aZ (Gc 4 (uh IW (uh IW IU))) (aZ (xJ [5] MO (am 5) Kq) (aZ (xP 3 2 4 8 9 10 Kc) (bD (aw (vC (.bool true))))))))))
noncomputable def o6:MX:=cy 1 10 ([1]++([2]++([3]++([4]++(([5]++([6]++([7]++([]++[]))))++((8::9::10::(([]++[])++(([]++[])++([]++[]))))++[])))))) (uT)
theorem DQ:ay ["_law_script","_law_drawn","_law_webs","_law_desks","_law_states","_law_again","_law_which","_law_line_here","_law_desk","_law_web_here","_law_state"] ["_law_script"] (aj rZ):=⟨rfl,rfl,rfl,by decide+kernel,rfl,by decide+kernel,by decide+kernel⟩
theorem Fi{P:Rw}{w:Ro}{K:Rj}{C:xM}{mg:Str->Option Oq}{base:Ru}{f:xM}{fd:RD}(h:dO K mg "law" rZ f fd ["_law_script"])(T:cA mg){Qk:xM}{Ql:RD}(Pu:dO K mg "_law_draws" ol Qk Ql ["_law_script"])(PJ:aG P w K mg base ck 2 Qk Ql ["_law_script"] (eu K 1 lK)){QN:xM}{QO:RD}(P':dO K mg "_law_web" xO QN QO ["_law_drawn","_law_most","_law_ties_here"])(Qm:aG P w K mg base ck 5 QN QO ["_law_drawn","_law_most","_law_ties_here"] (eu K 3 pT)){f_Desk___init__:xM}{e_Desk___init__:RD}(MK:Mk K C f_Desk___init__)(mC:mg "Desk"=some (.ref C))(B_Desk___init__:ez K e_Desk___init__ ["self","web"] [])(G_Desk___init__:aG P w K mg base ck 1 f_Desk___init__ e_Desk___init__ ["self","web"] (lY K C 2 bo)){Qy:xM}{Qz:RD}(PY:dO K mg "_law_line" rW Qy Qz ["_law_drawn","_law_web_here","_law_menu"])(P7:aG P w K mg base ck 2 Qy Qz ["_law_drawn","_law_web_here","_law_menu"] (eu K 3 kZ)){PM:xM}{PN:RD}(OE:dO K mg "_law_next" lu PM PN ["_law_drawn"])(OF:aG P w K mg base ck 1 PM PN ["_law_drawn"] (eu K 1 bO)){Qn:xM}{Qo:RD}(Pv:dO K mg "_law_right" oo Qn Qo ["_law_desk","_law_web_here","_law_state","_law_line_here"])(PK:aG P w K mg base ck 9 Qn Qo ["_law_desk","_law_web_here","_law_state","_law_line_here"] (lY K C 4 iI)){PU:xM}{PV:RD}(O8:dO K mg "_law_told" pk PU PV ["_law_desk","_law_line_here","_law_due_here"])(Pb:aG P w K mg base ck 8 PU PV ["_law_desk","_law_line_here","_law_due_here"] (lY K C 3 cT)){Qi:xM}{Qj:RD}(PH:dO K mg "_law_due" uo Qi Qj ["_law_web_here","_law_state","_law_line_here"])(PX:aG P w K mg base ck 4 Qi Qj ["_law_web_here","_law_state","_law_line_here"] (lY K C 3 bL))(cl:sP K C):aG P w K mg base ck 10 f fd ["_law_script"] (lY K C 1 (o6)):=by have nd:=DQ.nd;exact h.F.okY DQ rfl rfl (λcdv A outer s H E hr=>(@aM _ _ _ _ _ _ _ _ _ (@oj _ _ _ _ _ _ (@aS _ _ _ _ _ 1 _ _ nd rfl (Or.inl rfl) (@bP _ _ _ _ _ _ _ _ _ _ _ _ _ _ _ Pu PJ (hr.mono (by decide)) ((¬0)∘ac) (by rfl) (by decide) (by rfl) (by rfl)) (by rfl) (by trivial))) (@aM _ _ _ _ _ _ _ _ _ (@oj _ _ _ _ _ _ (@aS _ _ _ _ _ 2 _ _ nd rfl (Or.inl rfl) (@cC _ _ _ _ _ ((@bP _ _ _ _ _ _ _ _ _ _ _ _ _ _ _ P' Qm (hr.mono (by decide)) ((¬1)∘(ae∘(ae∘ac))) (by rfl) (by decide) (by rfl) (by rfl))∘((@bP _ _ _ _ _ _ _ _ _ _ _ _ _ _ _ P' Qm (hr.mono (by decide)) ((¬1)∘(ae∘(ae∘ac))) (by rfl) (by decide) (by rfl) (by rfl))∘ac))) (by rfl) (by trivial))) (@aM _ _ _ _ _ _ _ _ _ (@Dm _ _ _ 3 _ "_law_web_here" _ _ _ _ _ _ _ _ _ rfl (@fP _ _ _ _ _ rfl (¬2)) (λC' s0 H0 fp=>(@aR _ _ _ 0 _ (show SY (["_law_web_here"]:List Str) by decide+kernel) rfl (Or.inl rfl) (by trivial))) (λC' s0 H0 fp=>(@FZ _ _ _ _ _ _ _ _ _ _ _ _ _ rfl MK G_Desk___init__ (hr.mono (by decide)) rfl mC B_Desk___init__ (@aq _ _ _ _ _ (¬0)) (by rfl) (by decide) (by rfl) (by rfl))) rfl (by rfl) nd rfl rfl (by rfl) (by intro _;rfl)) (@aM _ _ _ _ _ _ _ _ _ (@Dn _ _ _ _ _ _ 4 _ _ _ nd rfl (Or.inl rfl) (@Hd _ _ _ _ _ _ _ (@rM _ _ _ _ _ _ _) (@Hd _ _ _ _ _ _ _ (@rM _ _ _ _ _ _ _) (@F7 _ _ _) (by rfl)) (by rfl)) (by rfl) (by trivial)) (@aM _ _ _ _ _ _ _ _ _ (@F8 _ _ _ _ _ _ _ _ _ _ _ _ Tv rfl (@fN _ _ _ _ _ _ _ rfl T.b_range (ae∘ac) (by rfl)) (@aR _ _ _ 5 _ nd rfl (Or.inl rfl) (by trivial)) (@aM _ _ _ _ _ _ _ _ _ (@oj _ _ _ _ _ _ (@aS _ _ _ _ _ 6 _ _ nd rfl (Or.inl rfl) (@bG _ _ _ _ _ _ _ (@bP _ _ _ _ _ _ _ _ _ _ _ _ _ _ _ OE OF (hr.mono (by decide)) ((¬1)∘ac) (by rfl) (by decide) (by rfl) (by rfl)) ae) (by rfl) (by trivial))) (@aM _ _ _ _ _ _ _ _ _ (@oj _ _ _ _ _ _ (@aS _ _ _ _ _ 7 _ _ nd rfl (Or.inl rfl) (@bP _ _ _ _ _ _ _ _ _ _ _ _ _ _ _ PY P7 (hr.mono (by decide)) ((¬1)∘((@cu _ _ _ _ _ _ _ rfl (¬2) (¬6) (λ_ _=>rfl))∘((@cC _ _ _ _ _ ((@aC _ _ _ _ _)∘((@aC _ _ _ _ _)∘((@aC _ _ _ _ _)∘((@aC _ _ _ _ _)∘((@aC _ _ _ _ _)∘ac))))))∘ac))) (by rfl) (by decide) (by rfl) (by rfl)) (by rfl) (by trivial))) (@aX _ _ _ _ _ _ (@fQ _ _ _ _ _ _ _ _ _ _ _ _ (@j9 _ _ _ _ _ _ (@j_ _ _ _ _ _ (@eS _ _ _ _ _ _ _ _ _ _ _ _ _ _ _ _ Pv PK (hr.mono (by decide)) (@Dy _ _ _ _ _ _ _ _ _ 3 rfl (@aN _ 3 _ _ (by rfl) (by first|exact Or.inl rfl|exact Or.inr (Or.inl rfl)|exact Or.inr (Or.inr rfl)) (by decide) (by decide)) (¬6) (λ_ _=>rfl) (@cM _ _ _ _ _ _ _ (@aq _ _ _ _ _ (@cu _ _ _ _ _ _ _ rfl (¬2) (¬6) (λ_ _=>rfl))) (@Dy _ _ _ _ _ _ _ _ _ 4 rfl (@aN _ 4 _ _ (by rfl) (by first|exact Or.inl rfl|exact Or.inr (Or.inl rfl)|exact Or.inr (Or.inr rfl)) (by decide) (by decide)) (¬6) (λ_ _=>rfl) (@cM _ _ _ _ _ _ _ (@aq _ _ _ _ _ (¬7)) (@cV _ _ _) (by rfl)) (by rfl)) (by rfl)) (by rfl)) (by rfl) (by decide) (by rfl) (by rfl)) (by intro _;rfl))) (@aX _ _ _ _ _ _ (@b7 _ _ _ _ _ _ (@aq _ _ _ _ _ (@md _ _ _ _ _)))) (@dh _ _ _))))) (by intro _;rfl)) (@aM _ _ _ _ _ _ _ _ _ (@F9 _ _ _ 3 2 4 8 9 10 _ _ _ _ _ _ _ _ _ _ _ _ _ _ _ _ _ _ _ _ Tv rfl rfl (by rfl) T.b_zip (@aN _ 3 _ _ (by rfl) (by first|exact Or.inl rfl|exact Or.inr (Or.inl rfl)|exact Or.inr (Or.inr rfl)) (by decide) (by decide)) (@aN _ 2 _ _ (by rfl) (by first|exact Or.inl rfl|exact Or.inr (Or.inl rfl)|exact Or.inr (Or.inr rfl)) (by decide) (by decide)) (@aN _ 4 _ _ (by rfl) (by first|exact Or.inl rfl|exact Or.inr (Or.inl rfl)|exact Or.inr (Or.inr rfl)) (by decide) (by decide)) (by rfl) (by rfl) nd rfl rfl rfl (Or.inl rfl) (Or.inl rfl) (Or.inl rfl) (by trivial) (by trivial) (by trivial) (by rfl) (by rfl) (by rfl) (by rfl) (by rfl) (by decide) (@aM _ _ _ _ _ _ _ _ _ (@A6 _ _ _ _ _ _ _ (2^4200) _ _ Tv (@Dp _ _ 10 _ _ _ (@iK _ _ _ _ _ (@rP _ _ _ _ (@pU _ _ _ _ _ _ _ _ (@aQ _ _ _ _ _ _ _ _ _ (@ym _ _ _ rfl hr) (@cu _ _ _ _ _ _ _ rfl (¬10) ae (λ_ _=>rfl)) (@cC _ _ _ _ _ ac) (aH _)) (@lm _ _ _ _ _ (@aQ _ _ _ _ _ _ _ _ _ (@ym _ _ _ rfl hr) (@cu _ _ _ _ _ _ _ rfl (¬10) ae (λ_ _=>rfl)) (@cC _ _ _ _ _ ac) (aH _))))))) (@aX _ _ _ _ _ _ (@fQ _ _ _ _ _ _ _ _ _ _ _ _ (@j9 _ _ _ _ _ _ (@j_ _ _ _ _ _ (@eS _ _ _ _ _ _ _ _ _ _ _ _ _ _ _ _ Pv PK (hr.mono (by decide)) (@lp _ _ _ _ _ _ 8 (@aN _ 8 _ _ (by rfl) (by first|exact Or.inl rfl|exact Or.inr (Or.inl rfl)|exact Or.inr (Or.inr rfl)) (by decide) (by decide)) (@cM _ _ _ _ _ _ _ (@aq _ _ _ _ _ (¬9)) (@lp _ _ _ _ _ _ 10 (@aN _ 10 _ _ (by rfl) (by first|exact Or.inl rfl|exact Or.inr (Or.inl rfl)|exact Or.inr (Or.inr rfl)) (by decide) (by decide)) (@cM _ _ _ _ _ _ _ (@aq _ _ _ _ _ (@aC _ _ _ _ _)) (@cV _ _ _) (by rfl)) (by rfl)) (by rfl)) (by rfl)) (by rfl) (by decide) (by rfl) (by rfl)) (by intro _;rfl))) (@aX _ _ _ _ _ _ (@b7 _ _ _ _ _ _ (@aq _ _ _ _ _ (@md _ _ _ _ _)))) (@dh _ _ _)))) (@aM _ _ _ _ _ _ _ _ _ (@fQ _ _ _ _ _ _ _ _ _ _ _ _ (@He _ _ _ _ _ (@Dq _ _ _ _ _ _ _ _ _ (@j9 _ _ _ _ _ _ (@j_ _ _ _ _ _ (@eS _ _ _ _ _ _ _ _ _ _ _ _ _ _ _ _ O8 Pb (hr.mono (by decide)) (@lp _ _ _ _ _ _ 8 (@aN _ 8 _ _ (by rfl) (by first|exact Or.inl rfl|exact Or.inr (Or.inl rfl)|exact Or.inr (Or.inr rfl)) (by decide) (by decide)) (@cM _ _ _ _ _ _ _ (@aq _ _ _ _ _ (@aC _ _ _ _ _)) (@cM _ _ _ _ _ _ _ (@aq _ _ _ _ _ (@aC _ _ _ _ _)) (@cV _ _ _) (by rfl)) (by rfl)) (by rfl)) (by rfl) (by decide) (by rfl) (by rfl)) (by intro _;rfl))) (@zS _ _ _ _ _ _ (@j9 _ _ _ _ _ _ (@j_ _ _ _ _ _ (@eS _ _ _ _ _ _ _ _ _ _ _ _ _ _ _ _ O8 Pb (hr.mono (by decide)) (@lp _ _ _ _ _ _ 8 (@aN _ 8 _ _ (by rfl) (by first|exact Or.inl rfl|exact Or.inr (Or.inl rfl)|exact Or.inr (Or.inr rfl)) (by decide) (by decide)) (@cM _ _ _ _ _ _ _ (@aq _ _ _ _ _ (@aC _ _ _ _ _)) (@cM _ _ _ _ _ _ _ (@aq _ _ _ _ _ (@aC _ _ _ _ _)) (@cV _ _ _) (by rfl)) (by rfl)) (by rfl)) (by rfl) (by decide) (by rfl) (by rfl)) (by intro _;rfl)))))) (@aX _ _ _ _ _ _ (@b7 _ _ _ _ _ _ (@aq _ _ _ _ _ (@md _ _ _ _ _)))) (@dh _ _ _)) (@aX _ _ _ _ _ _ (@fQ _ _ _ _ _ _ _ _ _ _ _ _ (@j9 _ _ _ _ _ _ (@j_ _ _ _ _ _ (@eS _ _ _ _ _ _ _ _ _ _ _ _ _ _ _ _ O8 Pb (hr.mono (by decide)) (@lp _ _ _ _ _ _ 8 (@aN _ 8 _ _ (by rfl) (by first|exact Or.inl rfl|exact Or.inr (Or.inl rfl)|exact Or.inr (Or.inr rfl)) (by decide) (by decide)) (@cM _ _ _ _ _ _ _ (@aq _ _ _ _ _ (@aC _ _ _ _ _)) (@cM _ _ _ _ _ _ _ (@C9 _ _ _ _ _ _ _ _ _ _ _ _ _ _ _ _ PH PX (hr.mono (by decide)) (@G1 _ _ _ _ _ _ _ (@aq _ _ _ _ _ (¬9)) (@Kz _ _ _ _ _ _ _ (@rM _ _ _ _ _ _ _) (@G1 _ _ _ _ _ _ _ (@aq _ _ _ _ _ (@aC _ _ _ _ _)) (@EI _ _ _) (by rfl)) (by rfl)) (by rfl)) (by rfl) (by decide) (by rfl) (by rfl)) (@cV _ _ _) (by rfl)) (by rfl)) (by rfl)) (by rfl) (by decide) (by rfl) (by rfl)) (by intro _;rfl))) (@aX _ _ _ _ _ _ (@b7 _ _ _ _ _ _ (@aq _ _ _ _ _ (@md _ _ _ _ _)))) (@dh _ _ _))))) (by intro _;rfl)) (@aX _ _ _ _ _ _ (@b7 _ _ _ _ _ _ (@aq _ _ _ _ _ (@md _ _ _ _ _)))))))))))
noncomputable def xk:FM:=Cq o6
local macro_rules|`(tactic|simp?[$ts,*])=>`(tactic|simp[$ts,*,jf,kf,aU,jx,bw,cY,bx,eV,lW,qk,rJ,az,aA,ww,ab,vC,dq,ah,aa,cN,aJ,dG,mK,tF,mL,zg,jH,wo,oJ,yg,gU,gG,cx,bR,nL,fF,gS,iE,c_,cG,qO,uG,cf,aF,am,bY,cm,aL,bj,rm,dP,eG,cI,g_,ie,h_,hX,hV,eI,eH,eJ,dz,eF,nv,gB,jU,ny,jX,ic,jV,jW,eN,eM,dA,eO,nB,jL,ed,i7,i8,mY,dw,du,dU,hZ,RF,-Sy,-Sb,-SR,-Ua,-RK,-SE,-getElem?_pos,-SQ,nj,ng,m7,m6,m9,m_,m8,nu])
theorem Eh{n k:Int}(h:0<k):0<=n%k:=Vh _ (Int.ne_of_gt h)
theorem Ei{n k:Int}(h:0<k):n%k<k:=Vi _ h
def nx:List Int->Int|[]=>0|d::_=>d
def lR(ds:List Int):Prop:=∀d∈ds,0<=d/\d<2147483648
theorem CG{ds:List Int}(h:lR ds):0<=nx ds/\nx ds<2147483648:=by cases ds with|nil=>exact⟨Int.le_refl 0,by show(0:Int)<2147483648;decide⟩|cons d r=>exact h d (by simp)
theorem LW{ds:List Int}(h:lR ds):lR ds.tail:=λd hd=>h d (Wj hd)
theorem y'(ds:List Int):bO [.l (ds.map .int)]=some (.d (.int (nx ds)),[.l (ds.tail.map .int)]):=by have hq:∀e:En,e[0]?=some (some (.l (ds.map .int)))->bc false e (.s 0) (.l [])=some (.d (.bool (ds.map PyData.int).isEmpty)):=λe he=>qT he (lw ds).1;cases ds with|nil=>simp?[bO,yl,hq,nx]|cons d r=>simp?[bO,yl,hq,nx]
theorem pq{ds:List Int}(hd:lR ds):∃(n:Int) (ds':List Int),bO [.l (ds.map .int)]=some (.d (.int n),[.l (ds'.map .int)])/\0<=n/\n<2147483648/\lR ds':=⟨nx ds,ds.tail,y' ds,(CG hd).1,(CG hd).2,LW hd⟩
theorem Al(cell k:Int)(h0:0<=k)(h1:k<=1000):∃r,lL [.d (.int cell),.d (.int k)]=some (.d (.int r),[.d (.int cell),.d (.int k)])/\0<=r/\r<2147483648:=by
 have a1:oZ (cell%2147483647) 48271=true:=vH (by decide) (by decide);have a2:oZ 7919 k=true:=Cv (by decide) (by decide);have a3:oZ (7919*k) k=true:=vH (by lia) (by lia);have a4:oZ ((cell%2147483647*48271+7919*k*k+104729)%2147483647) ((cell%2147483647*48271+7919*k*k+104729)%2147483647)=true:=vH (by lia) (by lia);refine⟨_,by simp?[lL,zu,be,qW,a1,a2,a3,a4];rfl,?_,?_⟩;·lia
 ·lia
theorem va{ds:List Int}(h:lR ds){r:Int}(h0:0<=r)(h1:r<2147483648):lR (ds++[r]):=λd hd=>by
 rcases Q9 hd with hd|hd;·exact h d hd
 ·simp at hd;subst hd;exact⟨h0,h1⟩
abbrev dE(ns ds:List Int)(v2 v3 v4:Option Sv):En:=[some (.d (.list (ns.map .int))),some (.l (ds.map .int)),v2,v3,v4]
inductive DI (ns:List Int) (i:Nat):En->Prop|mk{ds v2 v3 v4}(hd:lR ds) (hl:ds.length<=1000*i):DI ns i (dE ns ds v2 v3 v4)
inductive DJ (ns:List Int) (k cell:Int) (n i:Nat):En->Prop|mk{ds v4}(hd:lR ds) (hl:ds.length=n+i):DJ ns k cell n i (dE ns ds (some (.d (.int k))) (some (.d (.int cell))) v4)
inductive DW (ns:List Int) (k:Int) (v4:Option Sv) (n:Nat):En->Prop|mk{cell ds}(hc:0<=cell) (hd:lR ds) (hl:ds.length<=max n 900):DW ns k v4 n (dE ns ds (some (.d (.int k))) (some (.d (.int cell))) v4)
theorem Gu(ns:List Int)(hn:ns.length<=63):∃ds,lK [.d (.list (ns.map .int))]=some (.l (ds.map .int),[.d (.list (ns.map .int))])/\lR ds:=by
 have inner:∀(cell k:Int) (ds:List Int) (v4:Option Sv),0<=k->k<=63->lR ds->ds.length<=63000->∃ds' v4',(∀W,jd W lG (am 4) jg (dE ns ds (some (.d (.int k))) (some (.d (.int cell))) v4)=some (.nx (dE ns ds' (some (.d (.int k))) (some (.d (.int cell))) v4')))/\lR ds'/\ds'.length=ds.length+12:=by
  intro cell k ds v4 k0 k1 hd hl;obtain⟨e',h1,h2⟩:=kR (own:=[]) (g:=am 4) (f:=jg) (DJ ns k cell ds.length) (bC 0 12) 0 (dE ns ds (some (.d (.int k))) (some (.d (.int cell))) v4) (λi x e hx hI=>by
   obtain⟨rfl,hi⟩:=eg hx;obtain⟨hd',hl'⟩:=hI;rename_i ds' v4';obtain⟨r1,c1,_,_⟩:=Al cell (3*(0+(i:Int))+1) (by lia) (by lia);obtain⟨r2,c2,c3,c4⟩:=Al r1 (0+(i:Int)+k+2) (by lia) (by lia);have a1:oZ 3 (0+(i:Int))=true:=Cv (by decide) (by decide);refine⟨_,dE ns (ds'++[r2]) (some (.d (.int k))) (some (.d (.int cell))) (some (.d (.int (0+(i:Int))))),rfl,?_,er,.mk (va hd' c3 c4) (by simp;lia)⟩;have hlen:ds'.length<1000000:=by lia
   simp only[Int.zero_add]at a1 c1 c2;simp?[dE,jg,c1,c2,qW,a1,hlen]) (.mk hd rfl);obtain⟨hd',hl'⟩:=h2;rename_i ds' v4';rw[fR]at hl';refine⟨ds',v4',λW=>?_,hd',by lia⟩;rw[lO (show lG _=some (bC 0 12,[],_) from ee (n:=12) rfl (by decide) (by decide))];exact h1
 have wh:∀(cell k:Int) (ds:List Int) (v4:Option Sv),0<=cell->lR ds->ds.length<=63100->∃cell' ds',rY (2^4200) ip lB (dE ns ds (some (.d (.int k))) (some (.d (.int cell))) v4)=some (.nx (dE ns ds' (some (.d (.int k))) (some (.d (.int cell'))) v4))/\0<=cell'/\lR ds'/\ds'.length<=max ds.length 900:=by
  intro cell k ds v4 hc hd hl;have tst:∀(cell:Int) (ds:List Int),ip (dE ns ds (some (.d (.int k))) (some (.d (.int cell))) v4)=some (decide (1000000000000000000<=cell)&&decide ((ds.length:Int)<900),dE ns ds (some (.d (.int k))) (some (.d (.int cell))) v4):=by
   intro cell ds;by_cases h:(1000000000000000000:Int)<=cell;·simp?[dE,ip,nA,nX,h]
   ·simp?[dE,ip,nA,nX,h]
  obtain⟨e0,e',h1,hI,h3⟩:=sN (ft:=ip) (f:=lB) (DW ns k v4 ds.length) (λe=>1000000-G5 1 e) (λe hI=>by
   obtain⟨hc',hd',hl'⟩:=hI;rename_i cell' ds';rw[tst];by_cases c1:(1000000000000000000:Int)<=cell'
   ·by_cases c2:(ds'.length:Int)<900
    ·refine .inr ⟨_,dE ns (ds'++[cell'%2147483629]) (some (.d (.int k))) (some (.d (.int (cell'/2147483629)))) v4,by rw[decide_eq_true c1,decide_eq_true c2];rfl,?_,.mk (by lia) (va hd' (by lia) (by lia)) (by simp;lia),?_⟩
     ·have hlen:ds'.length<1000000:=by lia
      have b8:Bt 8000 2147483629:=oO (by decide) (by decide);simp?[dE,lB,be,iu,b8,hlen]
     ·simp[G5,dE];lia
    ·exact .inl ⟨_,by rw[decide_eq_true c1,decide_eq_false c2];rfl,trivial⟩
   ·exact .inl ⟨_,by rw[decide_eq_false c1];rfl,trivial⟩) (2^4200) _ (.mk hc hd (by lia)) (zL (m:=20) (VY (Nat.sub_le _ _) (by decide)) (by decide));obtain⟨hc',hd',hl'⟩:=hI;rename_i cell' ds';rw[tst]at h3;have h4:=(Prod.mk.inj (SB h3)).2;subst h4;exact⟨cell',ds',h1,hc',hd',hl'⟩
 have turn:∀(i:Nat) (ds:List Int) (v3 v4:Option Sv) (hi:i<ns.length),lR ds->ds.length<=1000*i->∃ds2 v3' v4',ik (dE ns ds (some (.d (.int (i:Int)))) v3 v4)=some (.nx (dE ns ds2 (some (.d (.int (i:Int)))) v3' v4'))/\lR ds2/\ds2.length<=1000*(i+1):=by
  intro i ds v3 v4 hi hd hl;have hcell:atI (ns.map PyData.int) (i:Int)=some (.int ns[i]):=by rw[i9 (by lia) (by rw[RQ];lia)];simp[hi]
  have c0:(0:Int)<=(ns[i].natAbs:Int):=by lia
  have st:bx 3 (aJ (g1 AD) (aa (aA dI (ab 0) (ab 2)) ah)) (dE ns ds (some (.d (.int (i:Int)))) v3 v4)=some (.nx (dE ns ds (some (.d (.int (i:Int)))) (some (.d (.int (ns[i].natAbs:Int)))) v4)):=by simp?[dE,hcell]
  generalize (ns[i].natAbs:Int)=cell at c0 st;have mid:∃ds1 v4',jx (az (aA G0 (ab 3) (aA yy (vC (.int 10)) (vC (.int 18))))) (jd ([4]++[]) lG (am 4) jg) cY (dE ns ds (some (.d (.int (i:Int)))) (some (.d (.int cell))) v4)=some (.nx (dE ns ds1 (some (.d (.int (i:Int)))) (some (.d (.int cell))) v4'))/\lR ds1/\ds1.length<=ds.length+12:=by
   by_cases cb:cell<1000000000000000000;·obtain⟨ds1,v4',f1,f2,f3⟩:=inner cell (i:Int) ds v4 (by lia) (by lia) hd (by lia);refine⟨ds1,v4',?_,f2,by lia⟩;rw[LB (e1:=dE ns ds (some (.d (.int (i:Int)))) (some (.d (.int cell))) v4) (by simp?[dE,nA,nX,cb])];exact f1 _
   ·refine⟨ds,v4,?_,hd,by lia⟩;rw[LA (e1:=dE ns ds (some (.d (.int (i:Int)))) (some (.d (.int cell))) v4) (by simp?[dE,nA,nX,cb])];rfl
  obtain⟨ds1,v4',m1,m2,m3⟩:=mid;obtain⟨cell2,ds2,w1,w2,w3,w4⟩:=wh cell (i:Int) ds1 v4' c0 m2 (by lia);by_cases c2:(2147483629:Int)<=cell2
  ·refine⟨ds2++[cell2%2147483629],some (.d (.int cell2)),v4',?_,va w3 (by lia) (by lia),by simp;lia⟩;have hlen:ds2.length<1000000:=by lia
   unfold ik;rw[lQ st,lQ m1,lQ w1];simp?[dE,c2,be,hlen]
  ·refine⟨ds2,some (.d (.int cell2)),v4',?_,w3,by lia⟩;unfold ik;rw[lQ st,lQ m1,lQ w1];simp?[dE,c2]
 obtain⟨e',h1,hI⟩:=kR (own:=[]) (g:=am 2) (f:=ik) (DI ns) (bC 0 (min (ns.length:Int) 63).toNat) 0 (dE ns [] none none none) (λi x e hx hI=>by obtain⟨rfl,hi⟩:=eg hx;obtain⟨hd,hl⟩:=hI;rename_i ds v2 v3 v4;rw[Ub]at hl⊢;obtain⟨ds2,v3',v4',t1,t2,t3⟩:=turn i ds v3 v4 (by lia) hd hl;exact⟨dE ns ds (some (.d (.int (i:Int)))) v3 v4,_,by simp[am,dE],t1,er,.mk t2 t3⟩) (.mk (λd hd=>by cases hd) (by simp));obtain⟨hd,hl⟩:=hI;rename_i ds v2 v3 v4;refine⟨ds,?_,hd⟩;have hf:∀W,jd W oT (am 2) ik (dE ns [] none none none)=some (.nx (dE ns ds v2 v3 v4)):=λW=>by rw[lO (show oT _=some (bC 0 (min (ns.length:Int) 63).toNat,[],dE ns [] none none none) from ee (n:=min (ns.length:Int) 63) (by simp?[dE]) (by lia) (by lia))];exact h1
 unfold dE at hf;simp only[Sy]at hf;simp?[lK,zt,hf]
theorem LU(a b:Int)(hb:Bt 4000 b):xj [.d (.int a),.d (.int b)]=some (.d (.int (RN a b)),[.d (.int a),.d (.int b)]):=by
 have tst:∀x y:Int,mT [some (.d (.int x)),some (.d (.int y))]=some (!(y==0),[some (.d (.int x)),some (.d (.int y))]):=λx y=>by simp?[mT]
 obtain⟨e0,e',h1,⟨x,y,he,hg,hy⟩,h3⟩:=sN (ft:=mT) (f:=qo) (λe=>∃x y,e=[some (.d (.int x)),some (.d (.int y))]/\RN x y=RN a b/\Bt 4000 y) (Cw 1) (λe⟨x,y,he,hg,hy⟩=>by
  subst he;rw[tst];by_cases c:y=0;·subst c;exact .inl ⟨_,rfl,trivial⟩
  ·refine .inr ⟨_,[some (.d (.int y)),some (.d (.int (x.fmod y)))],by rw[beq_false_of_ne c];rfl,by simp?[qo,HV c],⟨y,x.fmod y,rfl,by rw[B5,hg],?_⟩,?_⟩;·have:=pM x c;exact Bt.of_le hy (by lia)
   ·have:=pM x c;simpa[Cw]using this) (2^4200) _ ⟨a,b,rfl,rfl,hb⟩ (zL (m:=4000) (by simpa[Cw,Bt]using hb) (by decide));subst he;rw[tst]at h3;have h4:=Prod.mk.inj (SB h3);have hy0:y=0:=by simpa using h4.1
 subst hy0;have h5:=h4.2;subst h5;have hs:rY (2^4200) mT qo [some (.d (.int a)),some (.d (.int b))]=some (.nx [some (.d (.int x)),some (.d (.int 0))]):=h1;have hg':(x.natAbs:Int)=(RN a b:Int):=by rw[<-hg];simp
 simp only[xj,GP,jf,kf,aU,jx,bw,cY,bx,eV,lW,qk,rJ,az,aA,ww,ab,vC,dq,ah,aa,cN,aJ,dG,mK,tF,mL,zg,jH,wo,oJ,yg,gU,gG,cx,bR,nL,fF,gS,iE,c_,cG,qO,uG,cf,aF,am,bY,cm,aL,bj,rm,dP,eG,cI,g_,ie,h_,hX,hV,eI,eH,eJ,dz,eF,nv,gB,jU,ny,jX,ic,jV,jW,eN,eM,dA,eO,nB,jL,ed,i7,i8,mY,dw,du,dU,hZ,RF,-Sy,-Sb,-SR,-Ua,-RK,-SE,-getElem?_pos,-SQ,nj,ng,m7,m6,m9,m_,m8,nu];simp?[hs,hg']
theorem Hq(t b:Int)(hb:0<b)(h:Bt 4000 b):ue [.d (.int t),.d (.int b)]=some (.d (.tuple [.int (gM t b).1,.int (gM t b).2]),[.d (.int t),.d (.int b)]):=by
 have g0:=zG (t:=t) (b:=b) (by lia);have g1:(RN t b:Int)≠0:=by lia
 have g8:Bt 8000 (RN t b:Int):=(HY (t:=t) (by lia) h).mono (by decide);have e:gM t b=(t.fdiv (RN t b:Int),b.fdiv (RN t b:Int)):=by unfold gM;rw[if_neg (by lia)]
 rw[e];simp?[ue,GQ,LU t b h,EG g1 g8]
theorem GT{i:Int}{n:Nat}(h1:-2147483648<i)(h2:i<2147483648)(hn:31<=n):Bt n i:=Bt.mono (m:=31) (by unfold Bt;lia) hn
def BK(t b:Int):Prop:=0<=t/\t<=b/\1<=b/\b<=100/\RN t b=1
theorem D4(n k:Int)(hn:0<=n):∃t b,gD [.d (.int n),.d (.int k)]=some (.d (.tuple [.int t,.int b]),[.d (.int n),.d (.int k)])/\BK t b:=by
 have b9:Bt 8000 9:=oO (by decide) (by decide);have b100:Bt 8000 100:=oO (by decide) (by decide);have low:∀t b:Int,0<b->0<=t->t<=b->b<=100->BK (gM t b).1 (gM t b).2:=λt b hb h0 h1 h2=>by obtain⟨r1,r2,r3,r4⟩:=yI hb h0 h1 h2;exact⟨r1,r2,r3,r4,Co (by lia)⟩
 by_cases c0:k=0
 ·subst c0;obtain⟨x,hx,ha⟩:=qI (xs:=[PyData.tuple [.int 1,.int 2],.tuple [.int 1,.int 3],.tuple [.int 2,.int 3],.tuple [.int 1,.int 1],.tuple [.int 0,.int 1],.tuple [.int 3,.int 4]]) (i:=n%6) (by lia) (by simp;lia);obtain⟨t,b,rfl,hc⟩:∃t b,x=.tuple [.int t,.int b]/\BK t b:=by simp only[Su,Ti,or_false]at hx;rcases hx with rfl|rfl|rfl|rfl|rfl|rfl<;>exact⟨_,_,rfl,by unfold BK;decide⟩
  exact⟨t,b,by simp?[gD,kz,be,ha],hc⟩
 ·by_cases c1:k=1;·subst c1;have hm:(n/9)%(2+n%9-1)<2+n%9-1:=Vi _ (by lia);have hm0:0<=(n/9)%(2+n%9-1):=Vh _ (by lia);refine⟨_,_,?_,low (1+(n/9)%(2+n%9-1)) (2+n%9) (by lia) (by lia) (by lia) (by lia)⟩;have hpos:∀e:En,bK e (.d (.int (n/9))) (.d (.int (2+n%9-1)))=_:=λe=>be (by lia);have hl:=Hq (1+(n/9)%(2+n%9-1)) (2+n%9) (by lia) (GT (by lia) (by lia) (by decide));simp?[gD,kz,be,iu,b9,hpos,hl]
  ·by_cases c2:k=2;·subst c2;have hm:(n/100)%(1+n%100+1)<1+n%100+1:=Vi _ (by lia);have hm0:0<=(n/100)%(1+n%100+1):=Vh _ (by lia);refine⟨_,_,?_,low ((n/100)%(1+n%100+1)) (1+n%100) (by lia) (by lia) (by lia) (by lia)⟩;have hpos:∀e:En,bK e (.d (.int (n/100))) (.d (.int (1+n%100+1)))=_:=λe=>be (by lia);have hl:=Hq ((n/100)%(1+n%100+1)) (1+n%100) (by lia) (GT (by lia) (by lia) (by decide));simp?[gD,kz,be,iu,b100,hpos,hl]
   ·refine⟨1,1,?_,by unfold BK;decide⟩;simp?[gD,kz,c0,c1,c2]
theorem Gx(n k:Int):∃r,nK [.d (.int n),.d (.int k)]=some (.d (.int r),[.d (.int n),.d (.int k)])/\0<=r/\r<=1000:=by
 obtain⟨x,hx,ha⟩:=qI (xs:=[PyData.int (n%7),.int (5+n%2),.int (n%1001),.int (1000-n%3)]) (i:=k%4) (by lia) (by simp;lia);obtain⟨r,rfl,hr⟩:∃r,x=.int r/\0<=r/\r<=1000:=by simp only[Su,Ti,or_false]at hx;rcases hx with rfl|rfl|rfl|rfl<;>exact⟨_,rfl,by lia,by lia⟩
 exact⟨r,by simp?[nK,zv,be,ha],hr⟩
abbrev tE(ds:List Int)(things many shape odds ws:Int)(ts:List l6)(v7 v8 v9 v10 v11 v12:Option Sv):En:=[some (.l (ds.map .int)),some (.d (.int things)),some (.d (.int many)),some (.d (.int shape)),some (.d (.int odds)),some (.d (.int ws)),some (.l (ts.map ce)),v7,v8,v9,v10,v11,v12]
inductive TR (things many shape odds ws:Int) (ts:List l6) (k:Option Sv):En->Prop|mk{t ds w8 w9 w10 w11 w12}(hd:lR ds) (ht:t.Ok things):TR things many shape odds ws ts k (tE ds things many shape odds ws (ts++[t]) k w8 w9 w10 w11 w12)
inductive TI (things many a b c:Int) (i:Nat):En->Prop|mk{ts ds w7 w8 w9 w10 w11 w12}(hd:lR ds) (hl:ts.length=i) (ht:∀t∈ts,t.Ok things):TI things many a b c i (tE ds things many a b c ts w7 w8 w9 w10 w11 w12)
theorem LV(ds:List Int)(things many shape odds ws:Int)(ts:List l6)(k:Int)(v8 v9 v10 v11 v12:Option Sv)(hd:lR ds)(h2:2<=things)(h12:things<=100)(s0:0<=shape)(s1:shape<6)(k0:0<=k)(hl:ts.length<=1000):∃e',jh (tE ds things many shape odds ws ts (some (.d (.int k))) v8 v9 v10 v11 v12)=some (.nx e')/\TR things many shape odds ws ts (some (.d (.int k))) e':=by
 obtain⟨n,d1,tn,-,-,hd1⟩:=pq hd;obtain⟨m,d2,tm,m0,-,hd2⟩:=pq hd1;obtain⟨x,hx,ha⟩:=qI (xs:=[PyData.int (n%things),.int 0,.int (k%things),.int (n%things),.int (n%2),.int (n%things)]) (i:=shape) s0 (by simp;lia);have tp:0<things:=Wk (by decide) h2;have tq:0<things-1:=Int.sub_pos_of_lt (Wk (by decide) h2);have nt:0<=n%things/\n%things<things:=⟨Eh tp,Ei tp⟩;have kt:0<=k%things/\k%things<things:=⟨Eh tp,Ei tp⟩;obtain⟨one,rfl,o0,o1⟩:∃r,x=.int r/\0<=r/\r<things:=by simp only[Su,Ti,or_false]at hx;rcases hx with rfl|rfl|rfl|rfl|rfl|rfl<;>exact⟨_,rfl,by lia,by lia⟩
 have r0:0<=(n/12)%(things-1):=Eh tq;have r1:(n/12)%(things-1)<things-1:=Ei tq;have q0:0<=(one+1+(n/12)%(things-1))%things:=Eh tp;have q1:(one+1+(n/12)%(things-1))%things<things:=Ei tp;have qn:(one+1+(n/12)%(things-1))%things≠one:=λz=>by
  by_cases c:one+1+(n/12)%(things-1)<things;·rw[Int.emod_eq_of_lt (by lia) c]at z;lia
  ·have e:(one+1+(n/12)%(things-1))%things=(one+1+(n/12)%(things-1)-things)%things:=by rw[Int.sub_emod_right]
   rw[e,Int.emod_eq_of_lt (by lia) (by lia)]at z;lia
 obtain⟨t,b,c1,c2,c3,c4,c5,c6⟩:=D4 m odds m0;obtain⟨w,w1,w2,w3⟩:=Gx (m/10007) ws;have b12:Bt 8000 12:=oO (by decide) (by decide);have b107:Bt 8000 10007:=oO (by decide) (by decide);have g1:∀(e:En) (i:Int),bK e (.d (.int i)) (.d (.int things))=some (.d (.int (i%things))):=λe i=>be tp;have g2:∀(e:En) (i:Int),bK e (.d (.int i)) (.d (.int (things-1)))=some (.d (.int (i%(things-1)))):=λe i=>be tq;have hlen:ts.length<1000000:=by lia
 by_cases c:shape=4;·subst c;refine⟨tE d2 things many 4 odds ws (ts++[⟨0,1,t,b,w⟩]) (some (.d (.int k))) (some (.d (.int n))) (some (.d (.int 0))) (some (.d (.int 1))) (some (.d (.int m))) (some (.d (.tuple [.int 0,.int 1]))),?_,.mk hd2 ⟨by show(0:Int)<=0;decide,by show(0:Int)<1;decide,by show(1:Int)<things;lia,c2,c3,c4,c5,w2,w3,c6⟩⟩;simp?[tE,jh,tn,tm,be,g1,g2,iu,b12,b107,ha,c1,w1,kS,ce,hlen];decide
 ·refine⟨tE d2 things many shape odds ws (ts++[⟨min one ((one+1+(n/12)%(things-1))%things),max one ((one+1+(n/12)%(things-1))%things),t,b,w⟩]) (some (.d (.int k))) (some (.d (.int n))) (some (.d (.int one))) (some (.d (.int ((one+1+(n/12)%(things-1))%things)))) (some (.d (.int m))) (some (.d (.tuple [.int (min one ((one+1+(n/12)%(things-1))%things)),.int (max one ((one+1+(n/12)%(things-1))%things))]))),?_,.mk hd2 ⟨by show 0<=min _ _;lia,by show min _ _<max _ _;lia,by show max _ _<_;lia,c2,c3,c4,c5,w2,w3,c6⟩⟩;simp?[tE,jh,tn,tm,be,g1,g2,iu,b12,b107,ha,c1,w1,kS,ce,hlen,c]
theorem J0(ds:List Int)(things many:Int)(hd:lR ds)(h2:2<=things)(h12:things<=100)(m0:0<=many)(m1:many<=1000):∃(ts:List l6) (ds':List Int),rk [.l (ds.map .int),.d (.int things),.d (.int many)]=some (.d (.tuple (ts.map ce)),[.l (ds'.map .int),.d (.int things),.d (.int many)])/\lR ds'/\(ts.length:Int)=many/\∀t∈ts,t.Ok things:=by
 obtain⟨n0,d1,t0,-,-,hd1⟩:=pq hd;obtain⟨n1,d2,t1,-,-,hd2⟩:=pq hd1;obtain⟨n2,d3,t2,-,-,hd3⟩:=pq hd2;obtain⟨e',h1,hI⟩:=kR (own:=[]) (g:=am 7) (f:=jh) (TI things many (n0%6) (n1%4) (n2%4)) (bC 0 many.toNat) 0 (tE d3 things many (n0%6) (n1%4) (n2%4) [] none none none none none none) (λi x e hx hI=>by obtain⟨rfl,hi⟩:=eg hx;obtain⟨hd',hl,ht⟩:=hI;rename_i ts ds' w7 w8 w9 w10 w11 w12;obtain⟨e9,s1,⟨s2,s3⟩⟩:=LV ds' things many (n0%6) (n1%4) (n2%4) ts (0+(i:Int)) w8 w9 w10 w11 w12 hd' h2 h12 (Eh (by decide)) (Ei (by decide)) (by lia) (by lia);exact⟨_,_,rfl,s1,er,.mk s2 (by simp;lia) λz hz=>by
  rcases Q9 hz with hz|hz;·exact ht z hz
  ·simp at hz;subst hz;exact s3⟩) (.mk hd3 rfl λt ht=>by cases ht);obtain⟨hd',hl,ht⟩:=hI;rename_i ts ds' w7 w8 w9 w10 w11 w12;refine⟨ts,ds',?_,hd',by rw[hl,fR];lia,ht⟩;have hf:∀W,jd W qY (am 7) jh (tE d3 things many (n0%6) (n1%4) (n2%4) [] none none none none none none)=some (.nx (tE ds' things many (n0%6) (n1%4) (n2%4) ts w7 w8 w9 w10 w11 w12)):=λW=>by rw[lO (show qY _=some (bC 0 many.toNat,[],tE d3 things many (n0%6) (n1%4) (n2%4) [] none none none none none none) from ee (n:=many) (by simp?[tE]) (by lia) (by lia))];exact h1
 unfold tE at hf;simp only[Sy]at hf;simp?[rk,By,t0,t1,t2,be,hf]
abbrev wE(ds:List Int)(most tn things many:Int)(ts:List l6)(way:Int)(ps:List Int)(v8 v9:Option Sv):En:=[some (.l (ds.map .int)),some (.d (.int most)),some (.d (.int tn)),some (.d (.int things)),some (.d (.int many)),some (.d (.tuple (ts.map ce))),some (.d (.int way)),some (.l (ps.map .int)),v8,v9]
inductive WI (most tn things many:Int) (ts:List l6) (way:Int) (i:Nat):En->Prop|mk{ps ds w8}(hd:lR ds) (hpl:ps.length=i) (hps:∀p∈ps,0<=p/\p<=20):WI most tn things many ts way i (wE ds most tn things many ts way ps w8 none)
theorem Hs(ds:List Int)(most tn:Int)(hd:lR ds)(m0:0<=most)(m1:most<=12)(k0:0<=tn)(k1:tn<=16):∃(W:aO) (ds':List Int),pT [.l (ds.map .int),.d (.int most),.d (.int tn)]=some (.d (ag W),[.l (ds'.map .int),.d (.int most),.d (.int tn)])/\lR ds'/\W.Ok/\W.things<=most/\(W.ties.length:Int)<=tn:=by
 obtain⟨n0,d1,t0,-,-,hd1⟩:=pq hd;obtain⟨n1,d2,t1,-,-,hd2⟩:=pq hd1;have mp:0<most+1:=Int.lt_add_one_of_le m0;have kp:0<tn+1:=Int.lt_add_one_of_le k0;have g0:∀(e:En),bK e (.d (.int n0)) (.d (.int (most+1)))=some (.d (.int (n0%(most+1)))):=λe=>be mp;have g1':∀(e:En),bK e (.d (.int n1)) (.d (.int (tn+1)))=some (.d (.int (n1%(tn+1)))):=λe=>be kp;have th0:0<=n0%(most+1):=Eh mp;have th1:n0%(most+1)<most+1:=Ei mp;have ti0:0<=n1%(tn+1):=Eh kp;have ti1:n1%(tn+1)<tn+1:=Ei kp;clear mp kp;generalize n0%(most+1)=things at th0 th1 g0;generalize n1%(tn+1)=tm at ti0 ti1 g1';obtain⟨many,hmany,mm,m00,m01⟩:∃many:Int,many=tm*(if decide (1<things)=true then 1 else 0)/\(1<things\/many=0)/\0<=many/\many<=tn:=by
  by_cases c:1<things;·exact⟨tm,by simp[c],.inl c,ti0,by lia⟩
  ·exact⟨0,by simp[c],.inr rfl,by lia,by lia⟩
 have gm:∀e:En,qV e (.d (.int tm)) (.d (.int (if decide (1<things)=true then 1 else 0)))=some (.d (.int many)):=λe=>by rw[qW (vH (by split<;>decide) (by split<;>decide)),hmany]
 have gi:∀e:En,g1 yx e [.d (.bool (decide (1<things)))]=some (.d (.int (if decide (1<things)=true then 1 else 0))):=λe=>rfl;generalize (if decide (1<things)=true then 1 else 0:Int)=one at gm gi;obtain⟨ts,d3,t3,hd3,hlen,hts⟩:=J0 d2 (max 2 things) many hd2 (by lia) (by lia) m00 (by lia);obtain⟨n4,d4,t4,-,-,hd4⟩:=pq hd3;obtain⟨e',h1,hI⟩:=kR (own:=[]) (g:=am 8) (f:=qp) (WI most tn things many ts (n4%3)) (bC 0 things.toNat) 0 (wE d4 most tn things many ts (n4%3) [] none none) (λi x e hx hI=>by
  obtain⟨rfl,hi⟩:=eg hx;obtain⟨hd5,hpl,hps⟩:=hI;rename_i ps d5 w8;obtain⟨p1,d6,t6,-,-,hd6⟩:=pq hd5;obtain⟨p2,d7,t7,-,-,hd7⟩:=pq hd6;obtain⟨z,hz,ha⟩:=qI (xs:=[PyData.int 20,.int (1+p1%3),.int (p2%21)]) (i:=n4%3) (Eh (by decide)) (Ei (k:=3) (by decide));obtain⟨p,rfl,hp⟩:∃r,z=.int r/\0<=r/\r<=20:=by simp only[Su,Ti,or_false]at hz;rcases hz with rfl|rfl|rfl<;>exact⟨_,rfl,by lia,by lia⟩
  refine⟨wE d5 most tn things many ts (n4%3) ps (some (.d (.int (0+(i:Int))))) none,wE d7 most tn things many ts (n4%3) (ps++[p]) (some (.d (.int (0+(i:Int))))) none,rfl,?_,er,.mk hd7 (by simp;lia) λq hq=>by
   rcases Q9 hq with hq|hq;·exact hps q hq
   ·simp at hq;subst hq;exact hp⟩;have hlen:ps.length<1000000:=by lia
  simp?[wE,qp,t6,t7,be,ha,hlen]) (.mk hd4 rfl λp hp=>by cases hp);obtain⟨hd5,hpl,hps⟩:=hI;rename_i ps d5 w8;have hf:∀W,jd W vh (am 8) qp (wE d4 most tn things many ts (n4%3) [] none none)=some (.nx (wE d5 most tn things many ts (n4%3) ps w8 none)):=λW=>by rw[lO (show vh _=some (bC 0 things.toNat,[],wE d4 most tn things many ts (n4%3) [] none none) from ee (n:=things) (by simp?[wE]) (by lia) (by lia))];exact h1
 obtain⟨p1,d6,t6,-,-,hd6⟩:=pq hd5;obtain⟨p2,d7,t7,-,-,hd7⟩:=pq hd6;obtain⟨p3,d8,t8,-,-,hd8⟩:=pq hd7;have xp:0<max 1 many:=Wk Int.zero_lt_one (Int.le_max_left _ _);have gx:∀(e:En),bK e (.d (.int p1)) (.d (.int (max 1 many)))=some (.d (.int (p1%max 1 many))):=λe=>be xp;have x0:0<=p1%max 1 many:=Eh xp;have x1:p1%max 1 many<max 1 many:=Ei xp;obtain⟨z,hz,ha⟩:=qI (xs:=[PyData.int 40,.int (1+p1%max 1 many),.int (p2%41)]) (i:=p3%3) (Eh (by decide)) (Ei (k:=3) (by decide));obtain⟨asks,rfl,hasks⟩:∃r,z=.int r/\0<=r/\r<=40:=by simp only[Su,Ti,or_false]at hz;rcases hz with rfl|rfl|rfl<;>exact⟨_,rfl,by lia,by lia⟩
 rw[fR]at hpl;refine⟨⟨things,ts,ps,asks⟩,d8,?_,hd8,⟨th0,by show things<=12;lia,λt ht=>?_,by show ts.length<=16;lia,by show(ps.length:Int)=things;lia,hps,hasks.1,hasks.2⟩,by show things<=most;lia,by show(ts.length:Int)<=tn;lia⟩;·unfold wE at hf;simp only[Sy]at hf;simp?[pT,GR,t0,t1,g0,g1',gm,gi,t3,t4,be,hf,t6,t7,t8,gx,ha,ag]
 ·rcases mm with c|c;·have:=hts t ht;rw[show max 2 things=things by lia]at this;exact this
  ·have:ts=[]:=VZ.mp (by lia);subst this;cases ht
theorem uD{W:aO}{asked:List Int}{thing:Int}(h:∀k∈asked,iV W k)(hl:asked.length<=1000):iw [.d (ag W),.d (.tuple (asked.map .int)),.d (.int thing)]=some (.d (.int (W.many asked thing)),[.d (ag W),.d (.tuple (asked.map .int)),.d (.int thing)]):=by
 let cs:En:=[some (.d (.int thing)),some (.d (ag W))];have hc:∀x∈asked.map PyData.int,gn (cs++[some (.d x)])=some (ti (λk=>W.has k thing) x,cs++[some (.d x)]):=λx hx=>by obtain⟨k,hk,rfl⟩:=Q_ hx;simp?[ti,cs,gn,ag,gf (h k hk),ce,aO.has]
 have he:∀x∈asked.map PyData.int,ti (λk=>W.has k thing) x=true->gu (cs++[some (.d x)])=some (.d (id x),cs++[some (.d x)]):=λx hx _=>by simp?[cs,gu]
 obtain⟨t',hf⟩:=em (cs:=cs) (ft:=gn) (fe:=gu) (b:=ti (λk=>W.has k thing)) (y:=id) (asked.map PyData.int) none [] hc he (by simp;lia);have hv:=oI (cp:=[(2,"_law_thing"),(0,"_law_web_here")]) (nT:=1) (fi:=pO) (g:=am 2) (ft:=gn) (fe:=gu) (e:=[some (.d (ag W)),some (.d (.tuple (asked.map PyData.int))),some (.d (.int thing))]) (cs:=cs) (t:=[none]) (t':=[t']) (oU (fa:=ab 1) rfl) rfl rfl hf;have hlen:(([]++UC id (List.filter (ti (λk=>W.has k thing)) (asked.map PyData.int))).length:Int)=W.many asked thing:=by unfold aO.many;simp[VG];rfl
 simp only[iw,tL,jf,kf,aU,jx,bw,cY,bx,eV,lW,qk,rJ,az,aA,ww,ab,vC,dq,ah,aa,cN,aJ,dG,mK,tF,mL,zg,jH,wo,oJ,yg,gU,gG,cx,bR,nL,fF,gS,iE,c_,cG,qO,uG,cf,aF,am,bY,cm,aL,bj,rm,dP,eG,cI,g_,ie,h_,hX,hV,eI,eH,eJ,dz,eF,nv,gB,jU,ny,jX,ic,jV,jW,eN,eM,dA,eO,nB,jL,ed,i7,i8,mY,dw,du,dU,hZ,RF,-Sy,-Sb,-SR,-Ua,-RK,-SE,-getElem?_pos,-SQ,nj,ng,m7,m6,m9,m_,m8,nu];simp?[hv];simpa using hlen
theorem CO{W:aO}(ok:W.Ok){thing:Int}(h0:0<=thing)(h1:thing<W.things):atI (W.pat.map PyData.int) thing=some (.int (W.pat.getD thing.toNat 0)):=wD h0 (by have:=ok.pl;lia)
theorem Hr{W:aO}(ok:W.Ok){asked taken:List Int}{k:Int}(h:∀k∈asked,iV W k)(hl:asked.length<=1000)(hk:iV W k):k8 [.d (ag W),.d (c9 asked taken),.d (.int k)]=some (.d (.bool (W.may asked taken k)),[.d (ag W),.d (c9 asked taken),.d (.int k)]):=by
 have tk:=hk.ok ok;have t0:=tk.o0;have t1:=tk.o1;have t2:=tk.o2;have p1:=CO ok (thing:=(W.tie k).one) (by lia) (by lia);have p2:=CO ok (thing:=(W.tie k).other) (by lia) (by lia);have a1:=uD (W:=W) (asked:=asked) (thing:=(W.tie k).one) h hl;have a2:=uD (W:=W) (asked:=asked) (thing:=(W.tie k).other) h hl;rw[cB]at a1 a2⊢;unfold aO.may aO.bears;by_cases c1:asked.contains k=true;·simp?[k8,tM,c9,c1];simp at c1;simp[c1]
 ·by_cases c2:W.asks<=(asked.length:Int)
  ·have c1':k∉asked:=by simpa using c1
   simp?[k8,tM,c9,c1',c2]
  ·have c1':k∉asked:=by simpa using c1
   have turn:∀(thing:Int) (v5:Option Sv),iw [.d (.tuple [.int W.things,.tuple (W.ties.map ce),.tuple (W.pat.map .int),.int W.asks]),.d (.tuple (asked.map .int)),.d (.int thing)]=some (.d (.int (W.many asked thing)),[.d (.tuple [.int W.things,.tuple (W.ties.map ce),.tuple (W.pat.map .int),.int W.asks]),.d (.tuple (asked.map .int)),.d (.int thing)])->atI (W.pat.map PyData.int) thing=some (.int (W.pat.getD thing.toNat 0))->jM [some (.d (.tuple [.int W.things,.tuple (W.ties.map ce),.tuple (W.pat.map .int),.int W.asks])),some (.d (c9 asked taken)),some (.d (.int k)),some (.d (.tuple (asked.map .int))),some (.d (.tuple (taken.map .int))),some (.d (.int thing))]=(if (!taken.contains thing&&decide (W.many asked thing<W.pat.getD thing.toNat 0))=true then some (.nx [some (.d (.tuple [.int W.things,.tuple (W.ties.map ce),.tuple (W.pat.map .int),.int W.asks])),some (.d (c9 asked taken)),some (.d (.int k)),some (.d (.tuple (asked.map .int))),some (.d (.tuple (taken.map .int))),some (.d (.int thing))]) else some (.rt (.d (.bool false)) [some (.d (.tuple [.int W.things,.tuple (W.ties.map ce),.tuple (W.pat.map .int),.int W.asks])),some (.d (c9 asked taken)),some (.d (.int k)),some (.d (.tuple (asked.map .int))),some (.d (.tuple (taken.map .int))),some (.d (.int thing))])):=by
    intro thing v5 ha hp;by_cases d1:taken.contains thing=true
    ·have d1':thing∈taken:=by simpa using d1
     simp?[jM,d1']
    ·have d1':thing∉taken:=by simpa using d1
     by_cases d2:W.many asked thing<W.pat.getD thing.toNat 0
     ·have d2':¬W.pat.getD thing.toNat 0<=W.many asked thing:=by lia
      simp only[Wa]at d2 d2' hp;simp?[jM,d1',ha,hp,d2,d2']
     ·have d2':W.pat.getD thing.toNat 0<=W.many asked thing:=by lia
      simp only[Wa]at d2 d2' hp;simp?[jM,d1',ha,hp,d2,d2']
   have u1:=turn (W.tie k).one none a1 p1;have u2:=turn (W.tie k).other none a2 p2;have hf:∀Wl,jd Wl zI (am 5) jM [some (.d (.tuple [.int W.things,.tuple (W.ties.map ce),.tuple (W.pat.map .int),.int W.asks])),some (.d (c9 asked taken)),some (.d (.int k)),some (.d (.tuple (asked.map .int))),some (.d (.tuple (taken.map .int))),none]=lU [] (am 5) jM [.int (W.tie k).one,.int (W.tie k).other] [some (.d (.tuple [.int W.things,.tuple (W.ties.map ce),.tuple (W.pat.map .int),.int W.asks])),some (.d (c9 asked taken)),some (.d (.int k)),some (.d (.tuple (asked.map .int))),some (.d (.tuple (taken.map .int))),none]:=λWl=>by rw[lO];exact oU (by simp?[gf hk,ce])
   unfold c9 at u1 u2 hf⊢;by_cases e1:(!taken.contains (W.tie k).one&&decide (W.many asked (W.tie k).one<W.pat.getD (W.tie k).one.toNat 0))=true
   ·by_cases e2:(!taken.contains (W.tie k).other&&decide (W.many asked (W.tie k).other<W.pat.getD (W.tie k).other.toNat 0))=true;·rw[if_pos e1]at u1;rw[if_pos e2]at u2;rw[e1,e2];simp only[k8,tM,jf,kf,aU,jx,bw,cY,bx,eV,lW,qk,rJ,az,aA,ww,ab,vC,dq,ah,aa,cN,aJ,dG,mK,tF,mL,zg,jH,wo,oJ,yg,gU,gG,cx,bR,nL,fF,gS,iE,c_,cG,qO,uG,cf,aF,am,bY,cm,aL,bj,rm,dP,eG,cI,g_,ie,h_,hX,hV,eI,eH,eJ,dz,eF,nv,gB,jU,ny,jX,ic,jV,jW,eN,eM,dA,eO,nB,jL,ed,i7,i8,mY,dw,du,dU,hZ,RF,-Sy,-Sb,-SR,-Ua,-RK,-SE,-getElem?_pos,-SQ,nj,ng,m7,m6,m9,m_,m8,nu];simp?[c1',c2,hf,lU,u1,u2,er]
    ·rw[if_pos e1]at u1;rw[if_neg e2]at u2;rw[e1,Bool.not_eq_true _|>.mp e2];simp only[k8,tM,jf,kf,aU,jx,bw,cY,bx,eV,lW,qk,rJ,az,aA,ww,ab,vC,dq,ah,aa,cN,aJ,dG,mK,tF,mL,zg,jH,wo,oJ,yg,gU,gG,cx,bR,nL,fF,gS,iE,c_,cG,qO,uG,cf,aF,am,bY,cm,aL,bj,rm,dP,eG,cI,g_,ie,h_,hX,hV,eI,eH,eJ,dz,eF,nv,gB,jU,ny,jX,ic,jV,jW,eN,eM,dA,eO,nB,jL,ed,i7,i8,mY,dw,du,dU,hZ,RF,-Sy,-Sb,-SR,-Ua,-RK,-SE,-getElem?_pos,-SQ,nj,ng,m7,m6,m9,m_,m8,nu];simp?[c1',c2,hf,lU,u1,u2,er]
   ·rw[if_neg e1]at u1;rw[Bool.not_eq_true _|>.mp e1];simp only[k8,tM,jf,kf,aU,jx,bw,cY,bx,eV,lW,qk,rJ,az,aA,ww,ab,vC,dq,ah,aa,cN,aJ,dG,mK,tF,mL,zg,jH,wo,oJ,yg,gU,gG,cx,bR,nL,fF,gS,iE,c_,cG,qO,uG,cf,aF,am,bY,cm,aL,bj,rm,dP,eG,cI,g_,ie,h_,hX,hV,eI,eH,eJ,dz,eF,nv,gB,jU,ny,jX,ic,jV,jW,eN,eM,dA,eO,nB,jL,ed,i7,i8,mY,dw,du,dU,hZ,RF,-Sy,-Sb,-SR,-Ua,-RK,-SE,-getElem?_pos,-SQ,nj,ng,m7,m6,m9,m_,m8,nu];simp?[c1',c2,hf,lU,u1,er]
theorem D3{W:aO}{asked taken:List Int}{k:Int}(truth:Bool)(hk:iV W k)(h1:asked.length<60)(h2:taken.length<60):iG [.d (ag W),.d (c9 asked taken),.d (.int k),.d (.bool truth)]=some (.d (c9 (aO.askd asked k) (W.took taken k truth)),[.d (ag W),.d (c9 asked taken),.d (.int k),.d (.bool truth)]):=by
 have s1:∀e,g1 fB e [.d (.tuple (asked.map PyData.int++[.int k]))]=some (.l ((jF (asked++[k])).map .int)):=λe=>by have:=jY (e:=e) (ns:=asked++[k]) (by simp;lia);simpa using this
 have s2:∀e,g1 fB e [.d (.tuple (taken.map PyData.int++[.int (W.tie k).one,.int (W.tie k).other]))]=some (.l ((jF (taken++[(W.tie k).one,(W.tie k).other])).map .int)):=λe=>by have:=jY (e:=e) (ns:=taken++[(W.tie k).one,(W.tie k).other]) (by simp;lia);simpa using this
 have g1':∀e,cP e (.d (.tuple (asked.map .int))) (.d (.tuple [.int k]))=some (.d (.tuple (asked.map .int++[.int k]))):=λe=>kS (by simp;lia);have g2':∀e,cP e (.d (.tuple (taken.map .int))) (.d (.tuple [.int (W.tie k).one,.int (W.tie k).other]))=some (.d (.tuple (taken.map .int++[.int (W.tie k).one,.int (W.tie k).other]))):=λe=>kS (by simp;lia);rw[cB];cases truth with|true=>simp?[iG,qJ,c9,gf hk,ce,g1',g2',s1,s2,aO.askd,aO.took]|false=>simp?[iG,qJ,c9,g1',s1,aO.askd,aO.took]
theorem Bb{W:aO}(ok:W.Ok){asked taken:List Int}(h:∀k∈asked,iV W k)(hl:asked.length<=1000):jp [.d (ag W),.d (c9 asked taken)]=some (.l ((W.can asked taken).map .int),[.d (ag W),.d (c9 asked taken)]):=by
 let cs:En:=[some (.d (ag W)),some (.d (c9 asked taken))];have wl:=ok.len;have hc:∀x∈bC 0 W.ties.length,gh (cs++[some (.d x)])=some (ti (λk=>W.may asked taken k) x,cs++[some (.d x)]):=λx hx=>by obtain⟨i,hi⟩:=Va hx;obtain⟨rfl,hi⟩:=eg hi;have:=Hr ok (taken:=taken) h hl (k:=0+(i:Int)) ⟨by lia,by lia⟩;simp only[Int.zero_add]at this;simp?[ti,cs,gh,this]
 have he:∀x∈bC 0 W.ties.length,ti (λk=>W.may asked taken k) x=true->gr (cs++[some (.d x)])=some (.d (id x),cs++[some (.d x)]):=λx hx _=>by simp?[cs,gr]
 obtain⟨t',hf⟩:=em (cs:=cs) (ft:=gh) (fe:=gr) (b:=ti (λk=>W.may asked taken k)) (y:=id) (bC 0 W.ties.length) none [] hc he (by rw[fR];simp;lia);have hv:=oI (cp:=[(0,"_law_web_here"),(1,"_law_stand")]) (nT:=1) (fi:=kU) (g:=am 2) (ft:=gh) (fe:=gr) (e:=[some (.d (ag W)),some (.d (c9 asked taken))]) (cs:=cs) (t:=[none]) (t':=[t']) (show kU [some (.d (ag W)),some (.d (c9 asked taken))]=some (bC 0 W.ties.length,[],[some (.d (ag W)),some (.d (c9 asked taken))]) from ee (n:=(W.ties.length:Int)) (by rw[cB];simp?[RF]) (by lia) (by lia)) rfl rfl hf;rw[SR,List.map_id,pe]at hv;simp only[jp,tK,jf,kf,aU,jx,bw,cY,bx,eV,lW,qk,rJ,az,aA,ww,ab,vC,dq,ah,aa,cN,aJ,dG,mK,tF,mL,zg,jH,wo,oJ,yg,gU,gG,cx,bR,nL,fF,gS,iE,c_,cG,qO,uG,cf,aF,am,bY,cm,aL,bj,rm,dP,eG,cI,g_,ie,h_,hX,hV,eI,eH,eJ,dz,eF,nv,gB,jU,ny,jX,ic,jV,jW,eN,eM,dA,eO,nB,jL,ed,i7,i8,mY,dw,du,dU,hZ,RF,-Sy,-Sb,-SR,-Ua,-RK,-SE,-getElem?_pos,-SQ,nj,ng,m7,m6,m9,m_,m8,nu];simp?[hv]
theorem ly{W:aO}{k:Int}(hk:iV W k):ci [.d (ag W),.d (.int k)]=some (.d (.tuple [.int (W.tie k).one,.int (W.tie k).other]),[.d (ag W),.d (.int k)]):=by rw[cB];simp?[ci,pI,gf hk,ce]
theorem x5{W:aO}{asked:List Int}{thing:Int}(h:∀k∈asked,iV W k)(hl:asked.length<=1000):gE [.d (ag W),.d (.tuple (asked.map .int)),.d (.int thing)]=some (.d (.int (W.many asked thing)),[.d (ag W),.d (.tuple (asked.map .int)),.d (.int thing)]):=by
 let cs:En:=[some (.d (.int thing)),some (.d (ag W))];have hc:∀x∈asked.map PyData.int,dQ (cs++[some (.d x)])=some (ti (λk=>W.has k thing) x,cs++[some (.d x)]):=λx hx=>by obtain⟨k,hk,rfl⟩:=Q_ hx;have t:=ly (h k hk);simp?[ti,cs,dQ,t,aO.has]
 have he:∀x∈asked.map PyData.int,ti (λk=>W.has k thing) x=true->dS (cs++[some (.d x)])=some (.d (id x),cs++[some (.d x)]):=λx hx _=>by simp?[cs,dS]
 obtain⟨t',hf⟩:=em (cs:=cs) (ft:=dQ) (fe:=dS) (b:=ti (λk=>W.has k thing)) (y:=id) (asked.map PyData.int) none [] hc he (by simp;lia);have hv:=oI (cp:=[(2,"thing"),(0,"web")]) (nT:=1) (fi:=l9) (g:=am 2) (ft:=dQ) (fe:=dS) (e:=[some (.d (ag W)),some (.d (.tuple (asked.map PyData.int))),some (.d (.int thing))]) (cs:=cs) (t:=[none]) (t':=[t']) (oU (fa:=ab 1) rfl) rfl rfl hf;have hlen:(([]++UC id (List.filter (ti (λk=>W.has k thing)) (asked.map PyData.int))).length:Int)=W.many asked thing:=by unfold aO.many;simp[VG];rfl
 simp only[gE,pG,jf,kf,aU,jx,bw,cY,bx,eV,lW,qk,rJ,az,aA,ww,ab,vC,dq,ah,aa,cN,aJ,dG,mK,tF,mL,zg,jH,wo,oJ,yg,gU,gG,cx,bR,nL,fF,gS,iE,c_,cG,qO,uG,cf,aF,am,bY,cm,aL,bj,rm,dP,eG,cI,g_,ie,h_,hX,hV,eI,eH,eJ,dz,eF,nv,gB,jU,ny,jX,ic,jV,jW,eN,eM,dA,eO,nB,jL,ed,i7,i8,mY,dw,du,dU,hZ,RF,-Sy,-Sb,-SR,-Ua,-RK,-SE,-getElem?_pos,-SQ,nj,ng,m7,m6,m9,m_,m8,nu];simp?[hv];simpa using hlen
theorem Fx{W:aO}(ok:W.Ok){thing:Int}(h0:0<=thing)(h1:thing<W.things):atI (W.pat.map PyData.int) thing=some (.int (W.pat.getD thing.toNat 0)):=wD h0 (by have:=ok.pl;lia)
theorem Ak{W:aO}(ok:W.Ok){asked taken:List Int}{thing:Int}(h:∀k∈asked,iV W k)(hl:asked.length<=1000)(h0:0<=thing)(h1:thing<W.things):bV [.d (ag W),.d (c9 asked taken),.d (.int thing)]=some (.d (.bool (W.bears asked taken thing)),[.d (ag W),.d (c9 asked taken),.d (.int thing)]):=by
 have a:=x5 (thing:=thing) h hl;have p:=Fx ok h0 h1;have g2:∀e,dI e (.d (ag W)) (.d (.int 2))=some (.d (.tuple (W.pat.map .int))):=λe=>by rw[cB,gB,i7];rfl
 unfold aO.bears;generalize W.pat.getD thing.toNat 0=q at p⊢;by_cases c:taken.contains thing=true;·simp only[c];simp at c;simp?[bV,fw,c9,c]
 ·have c':taken.contains thing=false:=by simpa using c
  simp only[c'];simp at c;unfold c9 at a⊢;simp?[bV,fw,c,a,g2,p]
theorem uF{W:aO}(ok:W.Ok){asked taken:List Int}{k:Int}(h:∀k∈asked,iV W k)(hl:asked.length<=1000)(hk:iV W k):dB [.d (ag W),.d (c9 asked taken),.d (.int k)]=some (.d (.bool (W.may asked taken k)),[.d (ag W),.d (c9 asked taken),.d (.int k)]):=by
 have o:=hk.ok ok;have o0:=o.o0;have o1:=o.o1;have o2:=o.o2;have b1:=Ak ok (taken:=taken) (thing:=(W.tie k).one) h hl (by lia) (by lia);have b2:=Ak ok (taken:=taken) (thing:=(W.tie k).other) h hl (by lia) (by lia);have th:=ly hk;have g3:∀e,dI e (.d (ag W)) (.d (.int 3))=some (.d (.int W.asks)):=λe=>by rw[cB,gB,i8];rfl
 unfold aO.may;by_cases c1:asked.contains k=true;·simp only[c1];simp at c1;simp?[dB,lC,c9,c1]
 ·have c1':asked.contains k=false:=by simpa using c1
  simp at c1;by_cases c2:W.asks<=(asked.length:Int);·simp only[c1',c2];simp?[dB,lC,c9,c1,c2,g3]
  ·simp only[c1',c2];have hc:cw [(0,"web"),(1,"stand")] 1 pQ (am 2) jG kQ [some (.d (ag W)),some (.d (c9 asked taken)),some (.d (.int k)),some (.d (.tuple (asked.map .int)))]=some (.l [.bool (W.bears asked taken (W.tie k).one),.bool (W.bears asked taken (W.tie k).other)],[some (.d (ag W)),some (.d (c9 asked taken)),some (.d (.int k)),some (.d (.tuple (asked.map .int)))]):=by refine sL (items:=[.int (W.tie k).one,.int (W.tie k).other]) (eo:=[some (.d (ag W)),some (.d (c9 asked taken)),some (.d (.int (W.tie k).other))]) (oU (by simp?[th])) ?_ rfl;have hi:vj [(0,"web"),(1,"stand")] 1 [some (.d (ag W)),some (.d (c9 asked taken)),some (.d (.int k)),some (.d (.tuple (asked.map .int)))]=[some (.d (ag W)),some (.d (c9 asked taken)),none]:=rfl;rw[hi];simp?[gq,jG,kQ,b1,b2]
   have ga:∀e,g1 (jm wY) e [.l [.bool (W.bears asked taken (W.tie k).one),.bool (W.bears asked taken (W.tie k).other)]]=some (.d (.bool (W.bears asked taken (W.tie k).one&&W.bears asked taken (W.tie k).other))):=λe=>by simp[g1,jm,e_,wY,uS]
   unfold c9 at hc⊢;simp?[dB,lC,c1,c2,g3,hc,ga]
theorem sE{W:aO}{asked taken:List Int}{k:Int}(truth:Bool)(hk:iV W k)(h1:asked.length<60)(h2:taken.length<60):bZ [.d (ag W),.d (c9 asked taken),.d (.int k),.d (.bool truth)]=some (.d (c9 (aO.askd asked k) (W.took taken k truth)),[.d (ag W),.d (c9 asked taken),.d (.int k),.d (.bool truth)]):=by
 have s1:∀e,g1 fB e [.d (.tuple (asked.map PyData.int++[.int k]))]=some (.l ((jF (asked++[k])).map .int)):=λe=>by have:=jY (e:=e) (ns:=asked++[k]) (by simp;lia);simpa using this
 have s2:∀e,g1 fB e [.d (.tuple (taken.map PyData.int++[.int (W.tie k).one,.int (W.tie k).other]))]=some (.l ((jF (taken++[(W.tie k).one,(W.tie k).other])).map .int)):=λe=>by have:=jY (e:=e) (ns:=taken++[(W.tie k).one,(W.tie k).other]) (by simp;lia);simpa using this
 have g1':∀e,cP e (.d (.tuple (asked.map .int))) (.d (.tuple [.int k]))=some (.d (.tuple (asked.map .int++[.int k]))):=λe=>kS (by simp;lia);have g2':∀e,cP e (.d (.tuple (taken.map .int))) (.d (.tuple [.int (W.tie k).one,.int (W.tie k).other]))=some (.d (.tuple (taken.map .int++[.int (W.tie k).one,.int (W.tie k).other]))):=λe=>kS (by simp;lia);have th:=ly hk;cases truth with|true=>simp?[bZ,iC,c9,th,g1',g2',s1,s2,aO.askd,aO.took]|false=>simp?[bZ,iC,c9,g1',s1,aO.askd,aO.took]
structure Np (W:aO) (asked taken:List Int):Prop where
 inw:∀k∈asked,iV W k
 sa:asked.Pairwise (·<=·)na:asked.Nodup
 ak:(asked.length:Int)<=W.asks
 bd:∀t:Int,0<=t->t<W.things->W.many asked t<=W.pat.getD t.toNat 0
 st:taken.Pairwise (·<=·)nt:taken.Nodup
 th:∀t∈taken,0<=t/\t<W.things
 ev:(taken.length:Int)%2=0
 tt:∀t∈taken,0<W.many asked t
noncomputable def l0(th ak:Int):Str:=Rm "things"++Rm " "++(nS th++Rm " "++(Rm "asks"++Rm " "++nS ak))++Rm "\n"
noncomputable def lP(p:Int):Str:=Rm "thing"++Rm " "++nS p++Rm "\n"
noncomputable def fW(t:l6):Str:=TV++nS t.top++Rm "/"++nS t.bot
noncomputable def lT(t:l6):Str:=Rm "tie"++Rm " "++(nS t.one++Rm " "++(nS t.other++Rm " "++(fW t++Rm " "++nS t.worth)))++Rm "\n"
noncomputable def Nz(W:aO):List Str:=[l0 W.things W.asks]++W.pat.map lP++W.ties.map lT
structure NV (t:l6):Prop where
 a:0<=t.one/\t.one<=1000
 b:0<=t.other/\t.other<=1000
 c:0<=t.top/\t.top<=1000
 d:0<=t.bot/\t.bot<=1000
 e:0<=t.worth/\t.worth<=1000
theorem D9(s:Str)(ys:List Str):Txt.join s ys=Ss s ys:=StrLaws.glued_eq_join s ys
theorem BX{e:En}{s:Str}{ys:List Str}(h1:s.length<=16)(h2:(ys.map (·.length)).sum+ys.length<=1048576):pN e (.d (.str s)) (.l (ys.map .str))=some (.d (.str (Ss s ys))):=by
 have:∀l:List Str,xW (l.map .str)=some l:=λl=>by induction l with|nil=>rfl|cons a r ih=>simp[xW,ih]
 simp only[pN,bN,e_,RK,this];rw[if_pos ⟨h1,h2⟩,D9]
noncomputable def wd:Rh->Str|.int i=>nS i|.str x=>x|_=>TV
structure Wd (d:Rh):Prop where go:∀e:En,g1 iU e [.d d]=some (.d (.str (wd d)))ln:(wd d).length<=20
theorem Wd.int{i:Int}(h0:0<=i)(h1:i<=1000):Wd (.int i):=⟨λe=>B3 h0 h1,by have:=IV h0 h1;show(nS i).length<=20;lia⟩
theorem Wd.str{x:Str}(h:x.length<=20):Wd (.str x):=⟨λe=>B4,h⟩
def kj(r:List (Int×Bool)):List Int:=(r.filter (·.2)).map (·.1)
def kw(W:aO)(r:List (Int×Bool)):Int:=((kj r).map λk=>(W.tie k).worth).sum
theorem vB{r:List (Int×Bool)}{k:Int}(h:k∈kj r):∃p∈r,p.1=k:=by unfold kj at h;obtain⟨p,hp,e⟩:=Q_ h;exact⟨p,(Tj.mp hp).1,e⟩
theorem vA{r:List (Int×Bool)}:(kj r).length<=r.length:=by unfold kj;rw[RQ];exact List.length_filter_le _ _
theorem sum_le{W:aO}(ok:W.Ok):∀(ks:List Int),(∀k∈ks,iV W k)->0<=(ks.map λk=>(W.tie k).worth).sum/\(ks.map λk=>(W.tie k).worth).sum<=1000*(ks.length:Int)|[],_=>by simp|k::ks,h=>by obtain⟨a,b⟩:=sum_le ok ks λk hk=>h k (by simp[hk]);have o:=(h k (by simp)).ok ok;have:=o.w0;have:=o.w1;simp only[Sb,List.sum_cons,Tp];lia
theorem G4{W:aO}(ok:W.Ok){r:List (Int×Bool)}(hr:r.length<=16/\∀p∈r,iV W p.1):0<=kw W r/\kw W r<=16000:=by
 obtain⟨a,b⟩:=sum_le ok (kj r) λk hk=>by obtain⟨p,hp,rfl⟩:=vB hk;exact hr.2 p hp
 have:=vA (r:=r);unfold kw;lia
def sU:Rh->Rh|.tuple [a,_]=>a|_=>.none
def tw:Rh->Rh|.tuple [_,b]=>b|_=>.none
def boolD:Rh->Bool|.bool b=>b|_=>false
def t5:Rh->Int|.int i=>i|_=>0
theorem vz{r:List (Int×Bool)}:((r.map dR).filter λd=>boolD (tw d)).map sU=(kj r).map .int:=by induction r with|nil=>rfl|cons p r ih=>
 obtain⟨a,b⟩:=p;unfold kj at ih⊢;cases b;·exact ih
 ·exact congrArg (PyData.int a::·) ih
theorem Iy{W:aO}{r:List (Int×Bool)}:((r.map dR).filter λd=>boolD (tw d)).map (λd=>PyData.int (W.tie (t5 (sU d))).worth)=((kj r).map λk=>(W.tie k).worth).map .int:=by
 have:((r.map dR).filter λd=>boolD (tw d)).map (λd=>PyData.int (W.tie (t5 (sU d))).worth)=(((r.map dR).filter λd=>boolD (tw d)).map sU).map λd=>PyData.int (W.tie (t5 d)).worth:=by rw[TJ];rfl
 rw[this,vz,TJ,TJ];rfl
theorem uE{r:List (Int×Bool)}(hl:r.length<=1000):fH [.d (.tuple (r.map dR))]=some (.d (.tuple ((kj r).map .int)),[.d (.tuple (r.map dR))]):=by obtain⟨t',e1,hf⟩:=iD (cs:=[]) (g:=cf (aF (am 0) (aF (am 1) bY))) (ft:=kJ) (fe:=kP) (b:=λd=>boolD (tw d)) (y:=sU) (u:=λd=>[some (.d (sU d)),some (.d (tw d))]) 2 (r.map dR) [none,none] [] rfl (λx hx t ht=>by obtain⟨p,hp,rfl⟩:=Q_ hx;match t,ht with|[a1,a2],_=>rfl) (λx hx=>rfl) (λx hx=>by obtain⟨p,hp,rfl⟩:=Q_ hx;rfl) (λx hx _=>by obtain⟨p,hp,rfl⟩:=Q_ hx;rfl) (by simp;lia);rw[SR,vz]at hf;have hv:cw [] 2 pP (cf (aF (am 0) (aF (am 1) bY))) kJ kP [some (.d (.tuple (r.map dR)))]=some (.l ((kj r).map .int),[some (.d (.tuple (r.map dR)))]):=jI (own:=[]) rfl hf;generalize (kj r).map PyData.int=A at*;generalize r.map dR=B at*;simp?[fH,tO,hv]
theorem LH{e:En}{ws:List Int}:g1 (jm tZ) e [.l (ws.map .int)]=some (.d (.int ws.sum)):=by simp[g1,jm,e_,tZ,oV]
theorem we{W:aO}{r:List (Int×Bool)}(hr:r.length<=16/\∀p∈r,iV W p.1):eR [.d (ag W),.d (.tuple (r.map dR))]=some (.d (.int (kw W r)),[.d (ag W),.d (.tuple (r.map dR))]):=by
 have g1':∀e:En,dI e (.d (ag W)) (.d (.int 1))=some (.d (.tuple (W.ties.map ce))):=λe=>by rw[cB,gB,ed];rfl
 have kl:=vA (r:=r);have tk:=uE (r:=r) (by lia);obtain⟨t1,hf1⟩:=em (cs:=[some (.d (ag W))]) (ft:=jG) (fe:=eD) (b:=λ_=>true) (y:=λx=>.int (W.tie (t5 x)).worth) ((kj r).map .int) none [] (λx hx=>rfl) (λx hx _=>by obtain⟨k,hk',rfl⟩:=Q_ hx;obtain⟨p,hp,rfl⟩:=vB hk';have ai:=gf (W:=W) (k:=p.1) (hr.2 p hp);show eD [some (.d (ag W)),some (.d (.int p.1))]=some (.d (.int (W.tie p.1).worth),[some (.d (ag W)),some (.d (.int p.1))]);unfold ce at ai g1';generalize (W.tie p.1).worth=w at*;generalize (W.ties.map λt=>PyData.tuple [.int t.one,.int t.other,.tuple [.int t.top,.int t.bot],.int t.worth])=TT at*;simp?[eD,g1',ai]) (by simp;lia);rw[SR,List.filter_eq_self.mpr (λ_ _=>rfl),show(((kj r).map PyData.int).map λx=>PyData.int (W.tie (t5 x)).worth)=((kj r).map λk=>(W.tie k).worth).map .int by rw[TJ,TJ];rfl]at hf1;have hi:kY [some (.d (ag W)),some (.d (.tuple (r.map dR)))]=some ((kj r).map .int,[],[some (.d (ag W)),some (.d (.tuple (r.map dR)))]):=oU (by generalize (kj r).map PyData.int=A at*;simp?[tk]);have hv:=sL (cp:=[(0,"web")]) (nT:=1) (g:=am 1) hi hf1 rfl;have s:=λe:En=>LH (e:=e) (ws:=(kj r).map λk=>(W.tie k).worth);unfold kw;generalize ((kj r).map λk=>(W.tie k).worth).sum=w at*;generalize ((kj r).map λk=>(W.tie k).worth).map PyData.int=A at*;simp?[eR,mR,hv,s]
noncomputable def Lk(k:Int):Str:=Rm "ask "++nS k
theorem KW:∀k:Fin 16,SX (Lk (k.val:Int)) none (some 4)=Rm "ask ":=by decide+kernel
theorem KY:∀k:Fin 16,SX (Lk (k.val:Int)) (some 4) none=nS (k.val:Int):=by decide+kernel
theorem KZ:∀k:Fin 16,TK (Lk (k.val:Int)) (Rm " ")=[Rm "ask",nS (k.val:Int)]:=by decide+kernel
theorem K0:∀k:Fin 16,Vf (nS (k.val:Int))=true/\(nS (k.val:Int)).length<=4/\Ve (nS (k.val:Int))=some (k.val:Int):=by decide+kernel
theorem K1:∀k:Fin 16,∀x∈["yes","no","may","kept","back","best","bound"],Lk (k.val:Int)≠Rm x:=by decide+kernel
theorem rh{P:Int->Prop}(h:∀k:Fin 16,P (k.val:Int)){k:Int}(h0:0<=k)(h1:k<16):P k:=by have:=h ⟨k.toNat,by lia⟩;rw[show(((⟨k.toNat,by lia⟩:Fin 16).val:Nat):Int)=k by simp;lia]at this;exact this
def cW(W:aO):Std->List (Int×Bool)->Std|s,[]=>s|s,p::r=>cW W (nxt W s p.1 p.2) r
def kr(W:aO):Std->List (Int×Bool)->Prop|_,[]=>True|s,p::r=>iV W p.1/\p.1∉s.1/\kr W (nxt W s p.1 p.2) r
theorem kr.snoc{W:aO}{k:Int}{b:Bool}(hk:iV W k):∀{r:List (Int×Bool)}{s:Std},kr W s r->k∉(cW W s r).1->kr W s (r++[(k,b)])|[],s,_,h=>⟨hk,h,trivial⟩|p::r,s,h,n=>⟨h.1,h.2.1,kr.snoc hk h.2.2 n⟩
theorem kr.take{W:aO}:∀{r:List (Int×Bool)}{s:Std}(n:Nat),kr W s r->kr W s (r.take n)|_,_,0,_=>by rw[List.take_zero];trivial|[],_,n+1,h=>by rw[List.take_nil];exact h|p::r,_,n+1,h=>⟨h.1,h.2.1,kr.take n h.2.2⟩
theorem kr.st{W:aO}(ok:W.Ok):∀{r:List (Int×Bool)}{s:Std},i6 W s->kr W s r->i6 W (cW W s r)|[],_,h,_=>h|p::r,s,h,q=>kr.st (r:=r) (s:=nxt W s p.1 p.2) ok (h.nxt p.2 ok q.1 q.2.1) q.2.2
theorem Ah{W:aO}:∀(r:List (Int×Bool)) (s:Std),(cW W s r).1.length=s.1.length+r.length|[],_=>rfl|p::r,s=>by show(cW W (nxt W s p.1 p.2) r).1.length=_;rw[Ah r];show(aO.askd s.1 p.1).length+r.length=_;rw[qH,Tp];lia
theorem kr.inw{W:aO}:∀{r:List (Int×Bool)}{s:Std},kr W s r->∀p∈r,iV W p.1
 |[],_,_,p,hp=>by cases hp|q::r,_,h,p,hp=>by
  rcases Re hp with rfl|hp;·exact h.1
  ·exact kr.inw h.2.2 p hp
theorem kr.len{W:aO}(ok:W.Ok){r:List (Int×Bool)}(h:kr W ([],[]) r):r.length<=16:=by have h1:=(h.st ok (i6.first W)).len;rw[Ah]at h1;have:=ok.len;simp at h1;lia
theorem xV{W:aO}(ok:W.Ok){s:Std}(h:i6 W s):s.1.length<60/\s.2.length<60:=by have:=h.len;have:=h.tk;have:=ok.len;lia
theorem rS{W:aO}(ok:W.Ok){m:FM}(hm:∀(s:Std) (k:Int) (b:Bool),i6 W s->iV W k->m [.d (ag W),.d (c9 s.1 s.2),.d (.int k),.d (.bool b)]=some (.d (c9 (nxt W s k b).1 (nxt W s k b).2),[.d (ag W),.d (c9 s.1 s.2),.d (.int k),.d (.bool b)])){own:jJ}{x1:Option Sv}(kp:∀a c d,keeps own [some (.d (ag W)),x1,a,c,d]):∀(r:List (Int×Bool)) (s:Std) (a b:Option Sv),i6 W s->kr W s r->∃a' b',lU own (cf (aF (am 3) (aF (am 4) bY))) (bx 2 (dG 4 m (aa (ab 0) (aa (ab 2) (aa (ab 3) (aa (ab 4) ah)))))) (r.map dR) [some (.d (ag W)),x1,some (.d (c9 s.1 s.2)),a,b]=some (.nx [some (.d (ag W)),x1,some (.d (c9 (cW W s r).1 (cW W s r).2)),a',b'])|[],s,a,b,_,_=>⟨a,b,rfl⟩|p::r,s,a,b,hs,hr=>by have h1:=hm s p.1 p.2 hs hr.1;obtain⟨a',b',ih⟩:=rS ok hm kp r (nxt W s p.1 p.2) (some (.d (.int p.1))) (some (.d (.bool p.2))) (hs.nxt p.2 ok hr.1 hr.2.1) hr.2.2;refine⟨a',b',?_⟩;have k1:=kp (some (.d (c9 (nxt W s p.1 p.2).1 (nxt W s p.1 p.2).2))) (some (.d (.int p.1))) (some (.d (.bool p.2)));simp only[Sb,lU];generalize ag W=w at*;generalize c9 s.1 s.2=d at*;generalize c9 (nxt W s p.1 p.2).1 (nxt W s p.1 p.2).2=d2 at*;simp?[dR,h1,k1];exact ih
theorem lx{W:aO}(ok:W.Ok){r:List (Int×Bool)}(hr:kr W ([],[]) r):b5 [.d (ag W),.d (.tuple (r.map dR))]=some (.d (c9 (cW W ([],[]) r).1 (cW W ([],[]) r).2),[.d (ag W),.d (.tuple (r.map dR))]):=by
 obtain⟨a,b,h⟩:=rS ok (m:=bZ) (own:=[]) (x1:=some (.d (.tuple (r.map dR)))) (λs k b hs hk=>sE b hk (xV ok hs).1 (xV ok hs).2) (λ_ _ _=>er) r ([],[]) none none (i6.first W) hr;have hf:∀Wl,jd Wl jo (cf (aF (am 3) (aF (am 4) bY))) ji [some (.d (ag W)),some (.d (.tuple (r.map dR))),some (.d (c9 [] [])),none,none]=some (.nx [some (.d (ag W)),some (.d (.tuple (r.map dR))),some (.d (c9 (cW W ([],[]) r).1 (cW W ([],[]) r).2)),a,b]):=λWl=>by exact(lO (oU rfl)).trans h
 generalize c9 (cW W ([],[]) r).1 (cW W ([],[]) r).2=D at*;generalize ag W=w at*;generalize r.map dR=rs at*;unfold c9 at hf;simp only[Sy]at hf;simp?[b5,kG,hf]
theorem fV{W:aO}(ok:W.Ok){r:List (Int×Bool)}(hr:kr W ([],[]) r):iH [.d (ag W),.l (r.map dR)]=some (.d (c9 (cW W ([],[]) r).1 (cW W ([],[]) r).2),[.d (ag W),.l (r.map dR)]):=by
 obtain⟨a,b,h⟩:=rS ok (m:=iG) (own:=[(1,r.map dR)]) (x1:=some (.l (r.map dR))) (λs k b hs hk=>D3 b hk (xV ok hs).1 (xV ok hs).2) (λ_ _ _ p hp=>by rw[RW]at hp;subst hp;rfl) r ([],[]) none none (i6.first W) hr;have hf:jd [3,4,2] nF (cf (aF (am 3) (aF (am 4) bY))) mO [some (.d (ag W)),some (.l (r.map dR)),some (.d (c9 [] [])),none,none]=some (.nx [some (.d (ag W)),some (.l (r.map dR)),some (.d (c9 (cW W ([],[]) r).1 (cW W ([],[]) r).2)),a,b]):=by exact(DF (own:=[(1,r.map dR)]) rfl rfl).trans h
 generalize c9 (cW W ([],[]) r).1 (cW W ([],[]) r).2=D at*;generalize ag W=w at*;generalize r.map dR=rs at*;unfold c9 at hf;simp only[Sy]at hf;simp?[iH,qL,hf]
theorem lM{n:Int}(h0:0<=n)(h1:n<1000000):(nS n).length<=6:=by
 obtain⟨m,rfl⟩:=Int.eq_ofNat_of_zero_le h0;have h2:m<10^6:=by lia
 have:=(Nat.length_toDigits_le_iff (b:=10) (n:=m) (k:=6) (by decide) (by decide)).mpr h2;have e:nS (m:Int)=Rm (String.ofList (Nat.toDigits 10 m)):=rfl;have e2:(Rm (String.ofList (Nat.toDigits 10 m))).length=(Nat.toDigits 10 m).length:=by rw[Str.ofString_eq_toList];simp[Str.length]
 rw[e,e2];exact this
theorem jn{e:En}{i:Int}(h0:0<=i)(h1:i<1000000):g1 iU e [.d (.int i)]=some (.d (.str (nS i))):=by
 simp only[g1,iU];have h2:i.natAbs.log2<1900:=by
  by_cases z:i.natAbs=0;·rw[z];decide
  ·exact(Nat.log2_lt z).mpr (So (show i.natAbs<2^20 by lia) (UX (by decide) (by decide)))
 rw[if_pos h2];rfl
theorem Wd.intB{i:Int}(h0:0<=i)(h1:i<1000000):Wd (.int i):=⟨λe=>jn h0 h1,by have:=lM h0 h1;show(nS i).length<=20;lia⟩
theorem yX{ds:List Rh}(h:∀d∈ds,Wd d)(hl:ds.length<=60):∃t',gq (am 0) jG (aJ (g1 iU) (aa (ab 0) ah)) ds [none] []=some ((ds.map wd).map .str,[t']):=by obtain⟨t',h3⟩:=em (cs:=[]) (ft:=jG) (fe:=aJ (g1 iU) (aa (ab 0) ah)) (b:=λ_=>true) (y:=λd=>.str (wd d)) ds none [] (λ_ _=>rfl) (λx hx _=>by have:=(h x hx).go;simp?[this]) (by simp;lia);refine⟨t',?_⟩;rw[TJ];rw[List.filter_eq_self.mpr (λ_ _=>rfl)]at h3;exact h3
theorem rR{ds:List Rh}(h:∀d∈ds,Wd d)(hl:ds.length<=60)(e:En):pN e (.d (.str (Rm " "))) (.l ((ds.map wd).map .str))=some (.d (.str (Ss (Rm " ") (ds.map wd)))):=BX (by decide) (by have:=L2.sum_le (ls:=ds.map wd) (k:=20) (λx hx=>by obtain⟨d,hd,rfl⟩:=Q_ hx;exact(h d hd).ln);simp only[RQ]at this⊢;have:=Nat.mul_le_mul_right 20 hl;lia)
theorem Am{ds:List Rh}(h:∀d∈ds,Wd d)(hl:ds.length<=60):cJ [.d (.tuple ds)]=some (.d (.str (Ss (Rm " ") (ds.map wd))),[.d (.tuple ds)]):=by obtain⟨t',h3⟩:=yX h hl;have hc:cw [] 1 jZ (am 0) jG jS [some (.d (.tuple ds))]=some (.l ((ds.map wd).map .str),[some (.d (.tuple ds))]):=jI (own:=[]) rfl h3;have hj:=λe=>rR h hl e;rw[TJ]at hc hj;generalize Ss (Rm " ") (ds.map wd)=res at hj⊢;simp?[cJ,mr,hc,hj]
theorem Gw{ds:List Rh}(h:∀d∈ds,Wd d)(hl:ds.length<=60):cJ [.l ds]=some (.d (.str (Ss (Rm " ") (ds.map wd))),[.l ds]):=by obtain⟨t',h3⟩:=yX h hl;have hc:cw [] 1 jZ (am 0) jG jS [some (.l ds)]=some (.l ((ds.map wd).map .str),[some (.l ds)]):=jI (own:=[(0,ds)]) rfl h3;have hj:=λe=>rR h hl e;rw[TJ]at hc hj;generalize Ss (Rm " ") (ds.map wd)=res at hj⊢;simp?[cJ,mr,hc,hj]
noncomputable def gH(ks:List Int):Str:=if ks=[]then Rm "none"else Ss (Rm " ") (ks.map nS)
theorem wx(ks:List Int):(ks.map PyData.int).map wd=ks.map nS:=by rw[TJ];rfl
theorem Wd.ints{ks:List Int}(h:∀k∈ks,0<=k/\k<1000000):∀d∈ks.map PyData.int,Wd d:=λd hd=>by obtain⟨k,hk,rfl⟩:=Q_ hd;exact Wd.intB (h k hk).1 (h k hk).2
theorem qS{e:En}{xs:List Rh}{neg:Bool}(hs:Sd (.list xs)=true):bc neg e (.d (.list xs)) (.l [])=some (.d (.bool (if neg then !xs.isEmpty else xs.isEmpty))):=by
 unfold bc;simp only[iX,RK,hs];have h0:Sd (.list [])=true:=by simp[Sd,Sn,Tg,SF,TH]
 rw[h0];cases xs<;>simp[Th,PyData.eqvAll]
theorem sy{ks:List Int}(h:∀k∈ks,0<=k/\k<1000000)(hl:ks.length<=60):fD [.d (.list (ks.map .int))]=some (.d (.str (gH ks)),[.d (.list (ks.map .int))]):=by unfold gH;cases ks with|nil=>rfl|cons k r=>
 have h1:=Wd.ints h;have hl':((k::r).map PyData.int).length<=60:=by simpa using hl
 obtain⟨t',h3⟩:=yX h1 hl';have hc:cw [] 1 nE (am 0) jG m5 [some (.d (.list ((k::r).map .int)))]=some (.l ((((k::r).map .int).map wd).map .str),[some (.d (.list ((k::r).map .int)))]):=jI (own:=[]) rfl h3;have hj:=λe=>rR h1 hl' e;have ne:∀e,bc false e (.d (.list ((k::r).map .int))) (.l [])=some (.d (.bool false)):=λe=>by have:=qS (e:=e) (neg:=false) (lw (k::r)).1;simpa using this
 rw[if_neg (by simp)];rw[wx]at hc hj;generalize Ss (Rm " ") ((k::r).map nS)=res at hj⊢;generalize ((k::r).map nS).map PyData.str=A at hc hj;generalize (k::r).map PyData.int=B at*;simp?[fD,qK,ne,hc,hj]
theorem Bc{W:aO}(ok:W.Ok){asked taken:List Int}(h:∀k∈asked,iV W k)(hl:asked.length<=1000):jq [.d (ag W),.d (c9 asked taken)]=some (.l ((W.can asked taken).map .int),[.d (ag W),.d (c9 asked taken)]):=by
 let cs:En:=[some (.d (ag W)),some (.d (c9 asked taken))];have wl:=ok.len;have hc:∀x∈bC 0 W.ties.length,gp (cs++[some (.d x)])=some (ti (λk=>W.may asked taken k) x,cs++[some (.d x)]):=λx hx=>by obtain⟨i,hi⟩:=Va hx;obtain⟨rfl,hi⟩:=eg hi;have:=uF ok (taken:=taken) h hl (k:=0+(i:Int)) ⟨by lia,by lia⟩;simp only[Int.zero_add]at this;simp?[ti,cs,gp,this]
 have he:∀x∈bC 0 W.ties.length,ti (λk=>W.may asked taken k) x=true->gw (cs++[some (.d x)])=some (.d (id x),cs++[some (.d x)]):=λx hx _=>by simp?[cs,gw]
 obtain⟨t',hf⟩:=em (cs:=cs) (ft:=gp) (fe:=gw) (b:=ti (λk=>W.may asked taken k)) (y:=id) (bC 0 W.ties.length) none [] hc he (by rw[fR];simp;lia);have hv:=oI (cp:=[(0,"web"),(1,"stand")]) (nT:=1) (fi:=kX) (g:=am 2) (ft:=gp) (fe:=gw) (e:=[some (.d (ag W)),some (.d (c9 asked taken))]) (cs:=cs) (t:=[none]) (t':=[t']) (show kX [some (.d (ag W)),some (.d (c9 asked taken))]=some (bC 0 W.ties.length,[],[some (.d (ag W)),some (.d (c9 asked taken))]) from ee (n:=(W.ties.length:Int)) (by rw[cB];simp?[RF]) (by lia) (by lia)) rfl rfl hf;rw[SR,List.map_id,pe]at hv;simp only[jq,tN,jf,kf,aU,jx,bw,cY,bx,eV,lW,qk,rJ,az,aA,ww,ab,vC,dq,ah,aa,cN,aJ,dG,mK,tF,mL,zg,jH,wo,oJ,yg,gU,gG,cx,bR,nL,fF,gS,iE,c_,cG,qO,uG,cf,aF,am,bY,cm,aL,bj,rm,dP,eG,cI,g_,ie,h_,hX,hV,eI,eH,eJ,dz,eF,nv,gB,jU,ny,jX,ic,jV,jW,eN,eM,dA,eO,nB,jL,ed,i7,i8,mY,dw,du,dU,hZ,RF,-Sy,-Sb,-SR,-Ua,-RK,-SE,-getElem?_pos,-SQ,nj,ng,m7,m6,m9,m_,m8,nu];simp?[hv]
theorem BJ{W:aO}(ok:W.Ok){a b:List Int}:(∀k∈W.can a b,0<=k/\k<1000000)/\(W.can a b).length<=60:=by
 have wl:=ok.len;have hm:=pe (W:=W) (asked:=a) (taken:=b);refine⟨λk hk=>?_,?_⟩;·have h1:PyData.int k∈(W.can a b).map PyData.int:=UG.mpr ⟨k,hk,rfl⟩;rw[<-hm]at h1;obtain⟨i,hi⟩:=Va (Tj.mp h1).1;obtain⟨e,h2⟩:=eg hi;have:=PyData.int.inj e;lia
 ·have h1:((W.can a b).map PyData.int).length<=(bC 0 W.ties.length).length:=by rw[<-hm];exact List.length_filter_le _ _
  rw[fR,RQ]at h1;lia
theorem y_{W:aO}(ok:W.Ok){r:List (Int×Bool)}(hr:kr W ([],[]) r):ef [.d (ag W),.d (.tuple (r.map dR))]=some (.d (.str (gH (W.can (cW W ([],[]) r).1 (cW W ([],[]) r).2))),[.d (ag W),.d (.tuple (r.map dR))]):=by have st:=hr.st ok (i6.first W);have h1:=lx ok hr;have h2:=Bc ok (taken:=(cW W ([],[]) r).2) st.inw (by have:=(xV ok st).1;lia);obtain⟨c1,c2⟩:=BJ ok (a:=(cW W ([],[]) r).1) (b:=(cW W ([],[]) r).2);have h3:=Gw (Wd.ints c1) (by rw[RQ];exact c2);rw[wx]at h3;unfold gH;generalize c9 (cW W ([],[]) r).1 (cW W ([],[]) r).2=D at*;generalize W.can (cW W ([],[]) r).1 (cW W ([],[]) r).2=ks at*;generalize ag W=w at*;generalize r.map dR=rs at*;cases ks with|nil=>simp?[ef,mq,h1,h2]|cons k t=>
 have hl:¬((((k::t).map PyData.int).length:Int)<=0):=by simp
 rw[if_neg (by simp)];generalize Ss (Rm " ") ((k::t).map nS)=res at*;generalize (k::t).map PyData.int=B at*;have hl2:0<B.length:=by lia
 simp?[ef,mq,h1,h2,h3,hl2]
theorem t_(sep y:Str):∀(x:Str) (xs:List Str),Ss sep ((x::xs)++[y])=Ss sep (x::xs)++sep++y|x,[]=>rfl|x,z::xs=>by have ih:=t_ sep y z xs;show x++sep++Ss sep ((z::xs)++[y])=(x++sep++Ss sep (z::xs))++sep++y;rw[ih];simp only[Str.append_assoc]
noncomputable def l_(W:aO)(r:List (Int×Bool)):Str:=gH (kj r)++Rm " "++nS (kw W r)
theorem Cg{W:aO}(ok:W.Ok){r:List (Int×Bool)}(hr:kr W ([],[]) r):(∀k∈kj r,0<=k/\k<1000000)/\(kj r).length<=16:=by have hl:=hr.len ok;have wl:=ok.len;refine⟨λk hk=>?_,by have:=vA (r:=r);lia⟩;obtain⟨p,hp,rfl⟩:=vB hk;have:=hr.inw p hp;obtain⟨h0,h1⟩:=this;lia
theorem xZ{W:aO}(ok:W.Ok){r:List (Int×Bool)}(hr:kr W ([],[]) r):dg [.d (ag W),.d (.tuple (r.map dR))]=some (.d (.str (l_ W r)),[.d (ag W),.d (.tuple (r.map dR))]):=by
 have hl:=hr.len ok;have h1:=uE (r:=r) (by lia);have h2:=we (W:=W) (r:=r) ⟨hl,hr.inw⟩;obtain⟨w0,w1⟩:=G4 ok (r:=r) ⟨hl,hr.inw⟩;obtain⟨c1,c2⟩:=Cg ok hr;unfold l_ gH;generalize kw W r=wt at*
 cases hk:kj r with|nil=>rw[hk]at h1;have h3:=Am (ds:=[.str (Rm "none"),.int wt]) (λd hd=>by
  simp only[Su,Ti,or_false]at hd;rcases hd with rfl|rfl;·exact Wd.str (by decide)
  ·exact Wd.intB w0 (by lia)) (by simp);have e3:Ss (Rm " ") ([PyData.str (Rm "none"),PyData.int wt].map wd)=Rm "none"++Rm " "++nS wt:=rfl;rw[e3]at h3;rw[if_pos rfl];generalize Rm "none"++Rm " "++nS wt=res at*;generalize ag W=w at*;generalize r.map dR=rs at*;have g3:∀e,cP e (.d (.tuple [.str (Rm "none")])) (.d (.tuple [.int wt]))=some (.d (.tuple [.str (Rm "none"),.int wt])):=λe=>kS (by simp);simp only[Sy]at h1;simp?[dg,kB,h1,h2,g3,h3]|cons k t=>
  rw[hk]at h1 c1 c2;have hw:∀d∈((k::t).map PyData.int)++[PyData.int wt],Wd d:=λd hd=>by
   rcases Q9 hd with z|z;·exact Wd.ints c1 d z
   ·rw[RW]at z;rw[z];exact Wd.intB w0 (by lia)
  have hll:(((k::t).map PyData.int)++[PyData.int wt]).length<=60:=by simp at c2⊢;lia
  have h3:=Am hw hll;have e3:(((k::t).map PyData.int)++[PyData.int wt]).map wd=(nS k::t.map nS)++[nS wt]:=by rw[List.map_append,wx];rfl
  rw[e3,t_]at h3;rw[if_neg (by simp)];rw[show(k::t).map nS=nS k::t.map nS from rfl];generalize Ss (Rm " ") (nS k::t.map nS)++Rm " "++nS wt=res at*;have g3:∀e,cP e (.d (.tuple ((k::t).map PyData.int))) (.d (.tuple [.int wt]))=some (.d (.tuple (((k::t).map PyData.int)++[.int wt]))):=λe=>kS (by simp at c2⊢;lia);have hl2:0<((k::t).map PyData.int).length:=by simp
  generalize (k::t).map PyData.int=B at*;generalize ag W=w at*;generalize r.map dR=rs at*;simp?[dg,kB,h1,h2,hl2,g3,h3]
theorem MS{k:Int}(h0:0<=k)(h1:k<16):SX (Lk k) none (some 4)=Rm "ask ":=rh (P:=λk=>SX (Lk k) none (some 4)=Rm "ask ") KW h0 h1
theorem MT{k:Int}(h0:0<=k)(h1:k<16):SX (Lk k) (some 4) none=nS k:=rh (P:=λk=>SX (Lk k) (some 4) none=nS k) KY h0 h1
theorem MU{k:Int}(h0:0<=k)(h1:k<16):TK (Lk k) (Rm " ")=[Rm "ask",nS k]:=rh (P:=λk=>TK (Lk k) (Rm " ")=[Rm "ask",nS k]) KZ h0 h1
theorem IL{k:Int}(h0:0<=k)(h1:k<16):Vf (nS k)=true/\(nS k).length<=4/\Ve (nS k)=some k:=rh (P:=λk=>Vf (nS k)=true/\(nS k).length<=4/\Ve (nS k)=some k) K0 h0 h1
theorem MV{k:Int}(h0:0<=k)(h1:k<16):∀x∈["yes","no","may","kept","back","best","bound"],Lk k≠Rm x:=rh (P:=λk=>∀x∈["yes","no","may","kept","back","best","bound"],Lk k≠Rm x) K1 h0 h1
theorem Ck{k:Int}(h0:0<=k)(h1:k<16):(Lk k).length<=10:=by
 have:=(IL h0 h1).2.1;unfold Lk;rw[Gb];have:(Rm "ask ").length=4:=by decide
 lia
theorem Cn(k:Int):RZ (Lk k)=true:=by unfold Lk;exact iB (ax _) (ui k)
theorem hJ{e:En}{neg:Bool}{a b:Str}(ha:RZ a=true)(hb:RZ b=true):bc neg e (.d (.str a)) (.d (.str b))=some (.d (.bool (if neg then !decide (a=b) else decide (a=b)))):=by
 have e1:(a==b)=decide (a=b):=by by_cases c:a=b<;>simp[c]
 unfold bc;simp[iX,Sd,Sn,SF,Th,ha,hb,e1]
theorem DS{W:aO}:Sd (.tuple (W.ties.map ce))=true:=(Sh.tup (n:=6) λd hd=>by obtain⟨t,_,rfl⟩:=Q_ hd;exact Sh.tie).ok (by decide)
theorem x6{k:Int}(h0:0<=k)(h1:k<16):gF [.d (.str (nS k))]=some (.d (.int k),[.d (.str (nS k))]):=by
 obtain⟨a1,a2,a3⟩:=IL h0 h1;have s1:∀e:En,g1 oR e [.d (.str (nS k))]=some (.d (.int (nS k).length)):=λe=>by simp only[g1,oR,bN,RK];rw[if_pos (by lia)]
 have s2:∀e:En,g1 jT e [.d (.str (nS k))]=some (.d (.int k)):=λe=>by simp only[g1,jT,bN,RK];rw[if_pos (by lia),a3];rfl
 have s3:∀e:En,vG e (.d (.str (nS k)))=some (.d (.bool true)):=λe=>by simp only[vG,bN,SE,a1]
 have s4:∀e:En,g1 iU e [.d (.int k)]=some (.d (.str (nS k))):=λe=>jn h0 (by lia);have s5:∀e:En,bc false e (.d (.str (nS k))) (.d (.str (nS k)))=some (.d (.bool true)):=λe=>by rw[hJ (ui k) (ui k)];simp
 have hl:¬(4:Int)<((nS k).length:Int):=by lia
 generalize (nS k).length=L at*;generalize nS k=x at*;simp?[gF,pH,s1,s2,s3,s4,s5,hl]
theorem qU{e:En}{k:Int}:mx e (.d (.int k)) (.d .none)=some (.d (.bool true)):=rfl
theorem lF{e:En}:mx e (.d .none) (.d .none)=some (.d (.bool false)):=rfl
theorem BW{e:En}{k:Int}:Kf e (.d (.int k)) (.d .none)=some (.d (.bool false)):=rfl
theorem HU{e:En}:Kf e (.d .none) (.d .none)=some (.d (.bool true)):=rfl
theorem wa{W:aO}(ok:W.Ok){k:Int}(hk:iV W k):eQ [.d (ag W),.d (.str (Lk k))]=some (.d (.int k),[.d (ag W),.d (.str (Lk k))]):=by
 obtain⟨h0,h1⟩:=id hk;have wl:=ok.len;have h1':k<16:=by lia
 have a:=Ck h0 h1';have s0:∀e:En,k9 e (.d (.str (Lk k))) (.d (.str (Rm " ")))=some (.l [.str (Rm "ask"),.str (nS k)]):=λe=>by simp only[k9,bN,RK];rw[if_pos ⟨by decide,by lia⟩,MU h0 h1'];rfl
 have n1:=x6 h0 h1';have s5:∀e:En,bc true e (.d (.str (Rm "ask"))) (.d (.str (Rm "ask")))=some (.d (.bool false)):=λe=>by rw[hJ (ax _) (ax _)];simp
 have g1':∀e:En,dI e (.d (ag W)) (.d (.int 1))=some (.d (.tuple (W.ties.map ce))):=λe=>by rw[cB,gB,ed];rfl
 have hlt:k<((W.ties.map ce).length:Int):=by simpa using h1
 generalize W.ties.map ce=TT at*;generalize ag W=w at*;generalize Lk k=x at*;generalize nS k=y at*;simp?[eQ,mP,s0,s5,n1,g1',qU,hlt]
theorem Gp{W:aO}{r:List (Int×Bool)}(hr:r.length<=16/\∀p∈r,iV W p.1):rj [.d (ag W),.l (r.map dR)]=some (.d (.int (kw W r)),[.d (ag W),.l (r.map dR)]):=by
 have g1':∀e:En,dI e (.d (ag W)) (.d (.int 1))=some (.d (.tuple (W.ties.map ce))):=λe=>by rw[cB,gB,ed];rfl
 obtain⟨t',e1,hf⟩:=iD (cs:=[some (.d (ag W))]) (g:=cf (aF (am 1) (aF (am 2) bY))) (ft:=wH) (fe:=m4) (b:=λd=>boolD (tw d)) (y:=λd=>.int (W.tie (t5 (sU d))).worth) (u:=λd=>[some (.d (sU d)),some (.d (tw d))]) 2 (r.map dR) [none,none] [] rfl (λx hx t ht=>by obtain⟨p,hp,rfl⟩:=Q_ hx;match t,ht with|[a1,a2],_=>rfl) (λx hx=>rfl) (λx hx=>by obtain⟨p,hp,rfl⟩:=Q_ hx;rfl) (λx hx _=>by obtain⟨p,hp,rfl⟩:=Q_ hx;have ai:=gf (W:=W) (k:=p.1) (hr.2 p hp);show m4 [some (.d (ag W)),some (.d (.int p.1)),some (.d (.bool p.2))]=some (.d (.int (W.tie p.1).worth),[some (.d (ag W)),some (.d (.int p.1)),some (.d (.bool p.2))]);unfold ce at ai g1';generalize (W.tie p.1).worth=w at*;generalize (W.ties.map λt=>PyData.tuple [.int t.one,.int t.other,.tuple [.int t.top,.int t.bot],.int t.worth])=TT at*;simp?[m4,g1',ai]) (by simp;lia);rw[SR,Iy]at hf;have hv:=x_ (cp:=[(0,"_law_web_here")]) (nT:=2) (fi:=wZ) (e:=[some (.d (ag W)),some (.l (r.map dR))]) (own:=[(1,r.map dR)]) rfl rfl hf rfl;have s:=λe:En=>LH (e:=e) (ws:=(kj r).map λk=>(W.tie k).worth);unfold kw;generalize ((kj r).map λk=>(W.tie k).worth).sum=w at*;generalize ((kj r).map λk=>(W.tie k).worth).map PyData.int=A at*;simp?[rj,Bx,hv,s]
inductive Ln (W:aO) (B:Prop):Str->Prop|ask{k:Int}(h:iV W k):Ln W B (Lk k)|yes:Ln W B (Rm "yes")|no:Ln W B (Rm "no")|back (h:B):Ln W B (Rm "back")
theorem JY{W:aO}(ok:W.Ok){ds:List Int}(hd:lR ds){menu:List Str}(hm:∀x∈menu,x=Rm "ask"\/x=Rm "yes"\/x=Rm "no"\/x=Rm "back")(h0:0<menu.length):∃x,Ln W (Rm "back"∈menu) x/\kZ [.l (ds.map .int),.d (ag W),.d (.list (menu.map .str))]=some (.d (.str x),[.l (ds.tail.map .int),.d (ag W),.d (.list (menu.map .str))]):=by
 have n1:=y' ds;obtain⟨a0,a1⟩:=CG hd;have g1':∀e:En,dI e (.d (ag W)) (.d (.int 1))=some (.d (.tuple (W.ties.map ce))):=λe=>by rw[cB,gB,ed];rfl
 have pm:(0:Int)<(menu.length:Int):=by lia
 have m0:0<=nx ds%(menu.length:Int):=Vh _ (by lia);have m1:nx ds%(menu.length:Int)<(menu.length:Int):=Vi _ pm;obtain⟨x,hx⟩:∃x,menu[(nx ds%(menu.length:Int)).toNat]?=some x:=⟨_,SN (by lia)⟩;have hmx:=hm x (Rf hx);have gx:atI (menu.map PyData.str) (nx ds%(menu.length:Int))=some (.str x):=by rw[i9 m0 (by simpa using m1),RY,hx];rfl
 have gm:∀e:En,bK e (.d (.int (nx ds))) (.d (.int (((menu.map PyData.str).length:Nat):Int)))=some (.d (.int (nx ds%(menu.length:Int)))):=λe=>by rw[RQ];exact be pm
 have tk:=ok.len;have key:∀y:Str,y≠Rm "ask"->RZ y=true->∀e:En,bc true e (.d (.str y)) (.d (.str (Rm "ask")))=some (.d (.bool true)):=λy hy ho e=>by rw[hJ ho (ax _)];simp[hy]
 by_cases hask:x=Rm "ask"
 ·subst hask;have s5:∀e:En,bc true e (.d (.str (Rm "ask"))) (.d (.str (Rm "ask")))=some (.d (.bool false)):=λe=>by rw[hJ (ax _) (ax _)];simp
  have hsh:Sd (.tuple (W.ties.map ce))=true:=DS;have g2:∀e:En,bc false e (.d (.tuple (W.ties.map ce))) (.d (.tuple []))=some (.d (.bool (W.ties.map ce).isEmpty)):=λe=>by have:=BV (e:=e) (neg:=false) hsh;simpa using this
  by_cases hn:W.ties.length=0
  ·refine⟨_,.yes,?_⟩;have he:(W.ties.map ce).isEmpty=true:=by simpa using VZ.mp hn
   rw[he]at g2;generalize W.ties.map ce=TT at*;generalize ag W=w at*;generalize menu.map PyData.str=MM at*;generalize nx ds%(menu.length:Int)=q at*;simp?[kZ,uR,n1,g1',gm,gx,s5,g2]
  ·have he:(W.ties.map ce).isEmpty=false:=by cases h:W.ties with|nil=>exact absurd (by rw[h];rfl) hn|cons a r=>rfl
   rw[he]at g2;have pt:(0:Int)<(W.ties.length:Int):=by lia
   have q0:0<=nx ds/64%(W.ties.length:Int):=Vh _ (by lia);have q1:nx ds/64%(W.ties.length:Int)<(W.ties.length:Int):=Vi _ pt;refine⟨_,.ask (k:=nx ds/64%(W.ties.length:Int)) ⟨q0,by lia⟩,?_⟩;have gd:∀e:En,iF e (.d (.int (nx ds))) (.d (.int 64))=some (.d (.int (nx ds/64))):=λe=>iu (by decide) (oO (by decide) (by decide));have gm2:∀e:En,bK e (.d (.int (nx ds/64))) (.d (.int (((W.ties.map ce).length:Nat):Int)))=some (.d (.int (nx ds/64%(W.ties.length:Int)))):=λe=>by rw[RQ];exact be pt
   generalize nx ds/64%(W.ties.length:Int)=k at*;have s4:∀e:En,g1 iU e [.d (.int k)]=some (.d (.str (nS k))):=λe=>jn q0 (by lia);have s6:∀e:En,jl e (.d (.str (Rm "ask "))) (.d (.str (nS k)))=some (.d (.str (Lk k))):=λe=>qr (by
    have:=lM q0 (by lia);have:(Rm "ask ").length=4:=by decide
    lia);generalize Lk k=lk at*;generalize nS k=y at*;generalize W.ties.map ce=TT at*;generalize ag W=w at*;generalize menu.map PyData.str=MM at*;generalize nx ds%(menu.length:Int)=q at*;simp?[kZ,uR,n1,g1',gm,gx,s5,g2,gd,gm2,s4,s6]
 ·have hx':Ln W (Rm "back"∈menu) x/\RZ x=true:=by
   rcases hmx with rfl|rfl|rfl|rfl;·exact absurd rfl hask
   ·exact⟨.yes,ax _⟩
   ·exact⟨.no,ax _⟩
   ·exact⟨.back (Rf hx),ax _⟩
  refine⟨x,hx'.1,?_⟩;have s5:=key x hask hx'.2;generalize ag W=w at*;generalize menu.map PyData.str=MM at*;generalize nx ds%(menu.length:Int)=q at*;simp?[kZ,uR,n1,gm,gx,s5]
def oL(o:Option Int):List Rh:=o.toList.map .int
theorem tD:∀{a b:String},Rm a≠Rm b->∀(e:En) (neg:Bool),bc neg e (.d (.str (Rm a))) (.d (.str (Rm b)))=some (.d (.bool neg)):=fun{a b}h e neg=>by rw[hJ (ax _) (ax _)];simp[h]
theorem Gk(a:String)(e:En)(neg:Bool):bc neg e (.d (.str (Rm a))) (.d (.str (Rm a)))=some (.d (.bool !neg)):=by rw[hJ (ax _) (ax _)];simp
theorem LC(p:Int×Bool):Sh 4 (dR p):=Sh.tup (n:=2) λd hd=>by
 simp only[Su,Ti,or_false]at hd;rcases hd with rfl|rfl;·exact Sh.int
 ·exact Sh.bool
theorem tV(r:List (Int×Bool)):Sd (.list (r.map dR))=true:=(Sh.list (n:=4) λd hd=>by obtain⟨p,_,rfl⟩:=Q_ hd;exact LC p).ok (by decide)
theorem BP{r:List (Int×Bool)}(hl:r.length<=1000){x0 x2 x4 a b:Option Sv}:cw [] 2 zH (cf (aF (am 0) (aF (am 1) bY))) uU ve [x0,none,x2,some (.l (r.map dR)),x4,a,b]=some (.l ((kj r).map .int),[x0,none,x2,some (.l (r.map dR)),x4,a,b]):=by obtain⟨t',e1,hf⟩:=iD (cs:=[]) (g:=cf (aF (am 0) (aF (am 1) bY))) (ft:=uU) (fe:=ve) (b:=λd=>boolD (tw d)) (y:=sU) (u:=λd=>[some (.d (sU d)),some (.d (tw d))]) 2 (r.map dR) [none,none] [] rfl (λx hx t ht=>by obtain⟨p,hp,rfl⟩:=Q_ hx;match t,ht with|[a1,a2],_=>rfl) (λx hx=>rfl) (λx hx=>by obtain⟨p,hp,rfl⟩:=Q_ hx;rfl) (λx hx _=>by obtain⟨p,hp,rfl⟩:=Q_ hx;rfl) (by simp;lia);rw[SR,vz]at hf;exact jI (own:=[(3,r.map dR)]) rfl hf
theorem xa(sep:Str)(hs:sep.length=1):∀(xs:List Str) (k:Nat),(∀x∈xs,x.length<=k)->(Ss sep xs).length<=xs.length*(k+1)|[],_,_=>by show(TV).length<=_;exact Tq _|[x],k,h=>by show x.length<=_;have:=h x (by simp);simp;lia|x::y::r,k,h=>by have ih:=xa sep hs (y::r) k λz hz=>h z (SS _ hz);have:=h x (by simp);show(x++sep++Ss sep (y::r)).length<=_;rw[Gb,Gb,hs,Tp,Nat.succ_mul];lia
theorem DD{ks:List Int}(h:∀k∈ks,0<=k/\k<1000000)(hl:ks.length<=60):(gH ks).length<=1000:=by
 unfold gH;split;·decide
 ·have:=xa (Rm " ") (by decide) (ks.map nS) 6 λx hx=>by obtain⟨k,hk,rfl⟩:=Q_ hx;exact lM (h k hk).1 (h k hk).2
  rw[RQ]at this;lia
theorem y9{W:aO}(ok:W.Ok){r:List (Int×Bool)}{o:Option Int}(hr:kr W ([],[]) r):bL ([some (.d (ag W)),none,some (.d (.str (Rm "kept")))],[(.s 1,.st (r.map dR) (oL o))])=some (.str (l_ W r),[(.s 1,.st (r.map dR) (oL o))]):=by
 have h1:=fV ok hr;have hl:=hr.len ok;obtain⟨c1,c2⟩:=Cg ok hr;have h2:=sy c1 (by lia);have h3:=Gp (W:=W) (r:=r) ⟨hl,hr.inw⟩;obtain⟨w0,w1⟩:=G4 ok (r:=r) ⟨hl,hr.inw⟩;have s1:SX (Rm "kept") none (some 4)=Rm "kept":=by decide+kernel
 have sl:(Rm "kept").length<=1000000:=by decide
 have q1:=tD (a:="kept") (b:="ask ") (by decide+kernel);have q2:=tD (a:="kept") (b:="yes") (by decide+kernel);have q3:=tD (a:="kept") (b:="no") (by decide+kernel);have q4:=tD (a:="kept") (b:="may") (by decide+kernel);have q5:=Gk "kept";have s4:∀e:En,g1 iU e [.d (.int (kw W r))]=some (.d (.str (nS (kw W r)))):=λe=>jn w0 (by lia);have hc:=λx0 x2 x4 a b=>BP (r:=r) (x0:=x0) (x2:=x2) (x4:=x4) (a:=a) (b:=b) (by lia);have rl:(gH (kj r)).length<=1000:=DD c1 (by lia);have nl:=lM w0 (by lia:kw W r<1000000);have sp:(Rm " ").length=1:=by decide
 have t1:∀e:En,jl e (.d (.str (gH (kj r)))) (.d (.str (Rm " ")))=some (.d (.str (gH (kj r)++Rm " "))):=λe=>qr (by lia);have t2:∀e:En,jl e (.d (.str (gH (kj r)++Rm " "))) (.d (.str (nS (kw W r))))=some (.d (.str (gH (kj r)++Rm " "++nS (kw W r)))):=λe=>qr (by rw[Gb];lia);unfold l_;generalize gH (kj r)++Rm " "++nS (kw W r)=RES at*;generalize gH (kj r)++Rm " "=RE at*;generalize gH (kj r)=RO at*;generalize nS (kw W r)=NW at*;generalize kw W r=wt at*;generalize (kj r).map PyData.int=KS at*;generalize c9 (cW W ([],[]) r).1 (cW W ([],[]) r).2=D at*;generalize r.map dR=rs at*;generalize oL o=ws at*;generalize ag W=w at*;simp?[bL,cy,fx,mF,iY,okO,Lc.slot,l5,bN,s1,sl,q1,q2,q3,q4,q5,h1,h2,h3,s4,hc,t1,t2]
theorem xm{x0 x1 x2 x3 a b:Option Sv}{ws:List Rh}(hs:Sd (.list ws)=true)(neg:Bool):bc neg [x0,x1,x2,x3,some (.l ws),a,b] (.s 4) (.l [])=some (.d (.bool (if neg then !ws.isEmpty else ws.isEmpty))):=qT rfl hs
theorem fK(o:Option Int):Sd (.list (oL o))=true:=(lw o.toList).1
theorem Be{W:aO}(ok:W.Ok){r:List (Int×Bool)}{o:Option Int}{k:Int}(hr:kr W ([],[]) r)(hk:iV W k)(g:Bool)(hg:g=(o.isNone&&W.may (cW W ([],[]) r).1 (cW W ([],[]) r).2 k)):bL ([some (.d (ag W)),none,some (.d (.str (Lk k)))],[(.s 1,.st (r.map dR) (oL o))])=some (.str (if g=true then Rm "asked"else Rm "NoAsk"),[(.s 1,.st (r.map dR) (oL (if g=true then some k else o)))]):=by
 obtain⟨k0,k1⟩:=id hk;have wl:=ok.len;have k1':k<16:=by lia
 have st:=hr.st ok (i6.first W);have h1:=fV ok hr;have h2:=Hr ok (taken:=(cW W ([],[]) r).2) st.inw (by have:=(xV ok st).1;lia) hk;have s1:=MS k0 k1';have s2:=MT k0 k1';have sl:(Lk k).length<=1000000:=by have:=Ck k0 k1';lia
 obtain⟨a1,a2,a3⟩:=IL k0 k1';have i1:∀e:En,g1 jT e [.d (.str (nS k))]=some (.d (.int k)):=λe=>by simp only[g1,jT,bN,RK];rw[if_pos (by lia),a3];rfl
 have q1:=Gk "ask ";have n1:=λx0 x1 x2 x3 a b neg=>xm (x0:=x0) (x1:=x1) (x2:=x2) (x3:=x3) (a:=a) (b:=b) (fK o) neg;generalize W.may (cW W ([],[]) r).1 (cW W ([],[]) r).2 k=mb at*;generalize c9 (cW W ([],[]) r).1 (cW W ([],[]) r).2=D at*
 generalize r.map dR=rs at*;generalize ag W=w at*;generalize Lk k=x at*;generalize nS k=y at*;cases o with|some j=>
  subst hg;have n2:∀x0 x1 x2 x3 a b,bc true [x0,x1,x2,x3,some (.l (oL (some j))),a,b] (.s 4) (.l [])=some (.d (.bool true)):=λx0 x1 x2 x3 a b=>by rw[n1];rfl
  generalize he:oL (some j)=ws at*;simp?[bL,cy,fx,mF,iY,okO,Lc.slot,l5,bN,s1,s2,sl,q1,h1,i1,n2];exact he.symm|none=>
  have n2:∀x0 x1 x2 x3 a b,bc true [x0,x1,x2,x3,some (.l []),a,b] (.s 4) (.l [])=some (.d (.bool false)):=λx0 x1 x2 x3 a b=>by have:=n1 x0 x1 x2 x3 a b true;exact this
  have e0:oL none=[]:=rfl;have e1:oL (some k)=[.int k]:=rfl;cases mb with|true=>subst hg;simp?[bL,cy,fx,mF,iY,okO,Lc.slot,l5,bN,e0,e1,s1,s2,sl,q1,h1,h2,i1,n2]|false=>subst hg;simp?[bL,cy,fx,mF,iY,okO,Lc.slot,l5,bN,e0,s1,s2,sl,q1,h1,h2,i1,n2]
noncomputable def As(W:aO)(k:Int)(b:Bool):Str:=if b=true then Rm "kept "++nS (W.tie k).worth else Rm "gone"
noncomputable def Em(b:Bool):Str:=if b=true then Rm "yes"else Rm "no"
theorem y6{W:aO}(ok:W.Ok){r:List (Int×Bool)}(hr:kr W ([],[]) r)(b:Bool):bL ([some (.d (ag W)),none,some (.d (.str (Em b)))],[(.s 1,.st (r.map dR) [])])=some (.str (Rm "NoAsk"),[(.s 1,.st (r.map dR) [])]):=by
 have h1:=fV ok hr;have n2:∀x0 x1 x2 x3 a b,bc false [x0,x1,x2,x3,some (.l []),a,b] (.s 4) (.l [])=some (.d (.bool true)):=λx0 x1 x2 x3 a b=>xm (ws:=[]) (fK none) false
 generalize c9 (cW W ([],[]) r).1 (cW W ([],[]) r).2=D at*;generalize r.map dR=rs at*;generalize ag W=w at*;cases b with|true=>
  have s1:SX (Rm "yes") none (some 4)=Rm "yes":=by decide+kernel
  have sl:(Rm "yes").length<=1000000:=by decide
  have q1:=tD (a:="yes") (b:="ask ") (by decide+kernel);have q2:=Gk "yes";have e0:Em true=Rm "yes":=rfl;simp?[bL,cy,fx,mF,iY,okO,Lc.slot,l5,bN,e0,s1,sl,q1,q2,h1,n2]|false=>
  have s1:SX (Rm "no") none (some 4)=Rm "no":=by decide+kernel
  have sl:(Rm "no").length<=1000000:=by decide
  have q1:=tD (a:="no") (b:="ask ") (by decide+kernel);have q3:=tD (a:="no") (b:="yes") (by decide+kernel);have q2:=Gk "no";have e0:Em false=Rm "no":=rfl;simp?[bL,cy,fx,mF,iY,okO,Lc.slot,l5,bN,e0,s1,sl,q1,q2,q3,h1,n2]
theorem Bd{W:aO}(ok:W.Ok){r:List (Int×Bool)}(hr:kr W ([],[]) r){k:Int}(hk:iV W k)(b:Bool):bL ([some (.d (ag W)),none,some (.d (.str (Em b)))],[(.s 1,.st (r.map dR) [.int k])])=some (.str (As W k b),[(.s 1,.st ((r++[(k,b)]).map dR) [])]):=by
 have h1:=fV ok hr;have hl:=hr.len ok;have o:=hk.ok ok;have n2:∀x0 x1 x2 x3 a b,bc false [x0,x1,x2,x3,some (.l [.int k]),a,b] (.s 4) (.l [])=some (.d (.bool false)):=λx0 x1 x2 x3 a b=>xm (ws:=[.int k]) (fK (some k)) false;have g1':∀e:En,dI e (.d (ag W)) (.d (.int 1))=some (.d (.tuple (W.ties.map ce))):=λe=>by rw[cB,gB,ed];rfl
 have ai:=gf (W:=W) (k:=k) hk;have s4:∀e:En,g1 iU e [.d (.int (W.tie k).worth)]=some (.d (.str (nS (W.tie k).worth))):=λe=>jn o.w0 (by have:=o.w1;lia);have s6:∀e:En,jl e (.d (.str (Rm "kept "))) (.d (.str (nS (W.tie k).worth)))=some (.d (.str (Rm "kept "++nS (W.tie k).worth))):=λe=>qr (by
  have:=lM o.w0 (by have:=o.w1;lia:(W.tie k).worth<1000000);have:(Rm "kept ").length=5:=by decide
  lia);have hlr:(r.map dR).length<1000000:=by rw[RQ];lia
 have e1:(r++[(k,b)]).map dR=r.map dR++[dR (k,b)]:=by simp
 rw[e1];unfold As;unfold ce at ai g1';generalize Rm "kept "++nS (W.tie k).worth=RS at*;generalize nS (W.tie k).worth=y at*;generalize (W.tie k).worth=wt at*;generalize (W.ties.map λt=>PyData.tuple [.int t.one,.int t.other,.tuple [.int t.top,.int t.bot],.int t.worth])=TT at*
 generalize c9 (cW W ([],[]) r).1 (cW W ([],[]) r).2=D at*;generalize r.map dR=rs at*;generalize ag W=w at*;cases b with|true=>
  have s1:SX (Rm "yes") none (some 4)=Rm "yes":=by decide+kernel
  have sl:(Rm "yes").length<=1000000:=by decide
  have q1:=tD (a:="yes") (b:="ask ") (by decide+kernel);have q2:=Gk "yes";have e0:Em true=Rm "yes":=rfl;simp?[bL,cy,fx,mF,iY,okO,Lc.slot,l5,bN,e0,s1,sl,q1,q2,h1,n2,hlr,g1',ai,s4,s6,dR]|false=>
  have s1:SX (Rm "no") none (some 4)=Rm "no":=by decide+kernel
  have sl:(Rm "no").length<=1000000:=by decide
  have q1:=tD (a:="no") (b:="ask ") (by decide+kernel);have q3:=tD (a:="no") (b:="yes") (by decide+kernel);have q2:=Gk "no";have e0:Em false=Rm "no":=rfl;simp?[bL,cy,fx,mF,iY,okO,Lc.slot,l5,bN,e0,s1,sl,q1,q2,q3,h1,n2,hlr,g1',ai,s4,s6,dR]
def yu(a b c:Rh):List (Str×Rh):=[("web",a),("run",b),("waiting",c)]
theorem pL(a b c:Rh):(yu a b c).lookup ("web":Str)=some a:=rfl
theorem l7(a b c:Rh):(yu a b c).lookup ("run":Str)=some b:=rfl
theorem mZ(a b c:Rh):(yu a b c).lookup ("waiting":Str)=some c:=rfl
theorem HP(a b c:Rh):(yu a b c).lookup ("take_ask":Str)=none:=rfl
theorem BO(a b c:Rh):(yu a b c).lookup ("take_answer":Str)=none:=rfl
theorem pK(a b c:Rh):(yu a b c).length<900:=show 3<900 by decide
theorem vd(a b c x:Rh):nZ "run" x (yu a b c)=yu a x c:=rfl
theorem kO(a b c x:Rh):nZ "waiting" x (yu a b c)=yu a b x:=rfl
theorem bE(c:Lc)(o:Ob)(r:gc):Sg c ((c,o)::r)=some o:=by rw[Sm];simp
theorem dM(c:Lc)(o o':Ob):kn c o' [(c,o)]=[(c,o')]:=by simp[kn]
def wO(o:Option Int):Rh:=o.elim .none .int
def bI(W:aO)(r:List (Int×Bool))(o:Option Int):Ob:=.dk (yu (ag W) (.tuple (r.map dR)) (wO o))
theorem zM(w:Rh):bo ([none,some (.d w)],[(.s 0,.dk [])])=some (.none,[(.s 0,.dk (yu w (.tuple []) .none))]):=by
 have p1:nZ "waiting" .none (nZ "run" (.tuple []) (nZ "web" w []))=yu w (.tuple []) .none:=rfl;have q1:(nZ "web" w []).length<900:=show 1<900 by decide
 have q2:(nZ "run" (.tuple []) (nZ "web" w [])).length<900:=show 2<900 by decide
 simp?[bo,cy,jj,aZ,eX,aw,iY,okO,Lc.slot,bE,dM,p1,q1,q2]
theorem HN{W:aO}(ok:W.Ok){r:List (Int×Bool)}{o:Option Int}{k:Int}(hr:kr W ([],[]) r)(hk:iV W k)(g:Bool)(hg:g=(o.isNone&&W.may (cW W ([],[]) r).1 (cW W ([],[]) r).2 k)):br ([none,some (.d (.int k))],[(.s 0,bI W r o)])=some (.str (if g=true then Rm "asked"else Rm "NoAsk"),[(.s 0,bI W r (if g=true then some k else o))]):=by have st:=hr.st ok (i6.first W);have h1:=lx ok hr;have h2:=uF ok (taken:=(cW W ([],[]) r).2) st.inw (by have:=(xV ok st).1;lia) hk;unfold bI;generalize W.may (cW W ([],[]) r).1 (cW W ([],[]) r).2 k=mb at*;generalize c9 (cW W ([],[]) r).1 (cW W ([],[]) r).2=D at*;generalize r.map dR=rs at*;generalize ag W=w at*;cases o with|some j=>subst hg;simp?[br,cy,dr,aZ,cX,bD,b_,eX,wq,fj,bz,iQ,pA,bS,gX,bT,aw,iY,okO,Lc.slot,bE,dM,pL,l7,mZ,pK,kO,wO,L2.boolD,qU,h1,h2]|none=>cases mb with|true=>subst hg;simp?[br,cy,dr,aZ,cX,bD,b_,eX,wq,fj,bz,iQ,pA,bS,gX,bT,aw,iY,okO,Lc.slot,bE,dM,pL,l7,mZ,pK,kO,wO,L2.boolD,lF,h1,h2]|false=>subst hg;simp?[br,cy,dr,aZ,cX,bD,b_,eX,wq,fj,bz,iQ,pA,bS,gX,bT,aw,iY,okO,Lc.slot,bE,dM,pL,l7,mZ,pK,kO,wO,L2.boolD,lF,h1,h2]
theorem EA{W:aO}{r:List (Int×Bool)}(b:Bool):aV ([none,some (.d (.bool b))],[(.s 0,bI W r none)])=some (.str (Rm "NoAsk"),[(.s 0,bI W r none)]):=by unfold bI;simp?[aV,cy,cz,aZ,cX,bD,b_,bz,iQ,bT,aw,iY,okO,Lc.slot,bE,mZ,wO,L2.boolD,HU]
theorem HM{W:aO}(ok:W.Ok){r:List (Int×Bool)}{k:Int}(hl:r.length<=16)(hk:iV W k)(b:Bool):aV ([none,some (.d (.bool b))],[(.s 0,bI W r (some k))])=some (.str (As W k b),[(.s 0,bI W (r++[(k,b)]) none)]):=by
 have o:=hk.ok ok;have g1':∀e:En,dI e (.d (ag W)) (.d (.int 1))=some (.d (.tuple (W.ties.map ce))):=λe=>by rw[cB,gB,ed];rfl
 have ai:=gf (W:=W) (k:=k) hk;have e1:(r++[(k,b)]).map dR=r.map dR++[dR (k,b)]:=by simp
 have n1:(W.tie k).worth.natAbs.log2<1900:=by have:=o.w0;have:=o.w1;have:=Nat.log2_le_self (W.tie k).worth.natAbs;lia
 have n2:(nS (W.tie k).worth).length<=1000:=Sl (lM o.w0 (by have:=o.w1;lia)) (by decide);have n3:Rm (W.tie k).worth.repr=nS (W.tie k).worth:=rfl;have n4:∀y:Str,TV++y=y:=λy=>by obtain⟨c⟩:=y;show(⟨#[]++c⟩:Str)=⟨c⟩;rw[Array.empty_append]
 have n6:∀(e:En) (d:Rh),cP e (.d (.tuple (r.map dR))) (.d (.tuple [d]))=some (.d (.tuple (r.map dR++[d]))):=λe d=>by
  have h1:zE e (.d (.tuple (r.map dR))) (.d (.tuple [d]))=none:=rfl;have h2:qR e (.d (.tuple (r.map dR))) (.d (.tuple [d]))=some (.d (.tuple (r.map dR++[d]))):=by
   have:(r.map dR).length+[d].length<=1000000:=by rw[RQ,List.length_singleton];lia
   unfold qR;simp only[e_];rw[if_pos this]
  rw[show cP e (.d (.tuple (r.map dR))) (.d (.tuple [d]))=(zE e (.d (.tuple (r.map dR))) (.d (.tuple [d]))).or ((qR e (.d (.tuple (r.map dR))) (.d (.tuple [d]))).or (zF e (.d (.tuple (r.map dR))) (.d (.tuple [d])))) from rfl,h1,h2];rfl
 have n5:("kept ":Str).length<=1000:=by decide
 unfold bI;rw[e1];unfold As;unfold ce at ai g1';generalize (W.ties.map λt=>PyData.tuple [.int t.one,.int t.other,.tuple [.int t.top,.int t.bot],.int t.worth])=TT at*;generalize r.map dR=rs at*;generalize ag W=w at*;cases b with|true=>simp?[aV,cy,cz,aZ,cX,bD,b_,ou,eX,bz,iQ,zh,Ea,bT,aw,et,iY,okO,Lc.slot,bE,dM,pL,l7,mZ,pK,kO,vd,wO,L2.boolD,BW,g1',ai,n1,n2,n3,n4,n5,n6,dR]|false=>simp?[aV,cy,cz,aZ,cX,bD,b_,ou,eX,bz,iQ,zh,Ea,bT,aw,et,iY,okO,Lc.slot,bE,dM,pL,l7,mZ,pK,kO,vd,wO,L2.boolD,BW,g1',ai,n6,dR]
theorem oQ{e:En}{x a b:Str}(hx:RZ x=true)(ha:RZ a=true)(hb:RZ b=true):yf false e (.d (.str x)) (.d (.tuple [.str a,.str b]))=some (.d (.bool (decide (a=x)||decide (b=x)))):=by
 have v:∀y:Str,Th (.str y) (.str x)=decide (y=x):=λy=>by show(y==x)=decide (y=x);by_cases c:y=x<;>simp[c]
 unfold yf;simp only[iX,e_,RK];rw[if_pos (by simp[Sn,Tg,SF,hx,ha,hb])];rw[if_neg (by decide),VF,VF,List.any_nil,v,v,Bool.or_false]
theorem rc{e:En}{x:Str}:AG "str" e (.d (.str x))=some (.d (.bool true)):=rfl
theorem DK{W:aO}{r:List (Int×Bool)}{o:Option Int}{t:Str}{r':List (Int×Bool)}{o':Option Int}(b:Bool)(h:aV ([none,some (.d (.bool b))],[(.s 0,bI W r o)])=some (.str t,[(.s 0,bI W r' o')])):a9 ([none,some (.d (.str (Em b)))],[(.s 0,bI W r o)])=some (.str t,[(.s 0,bI W r' o')]):=by unfold bI at*;cases b with|true=>have q1:=λe=>oQ (e:=e) (x:=Rm "yes") (a:=Rm "yes") (b:=Rm "no") (ax _) (ax _) (ax _);have q2:=Gk "yes";have e0:Em true=Rm "yes":=rfl;simp?[a9,cy,dc,aZ,cX,bD,b_,ba,lZ,bA,cc,lc,lS,gR,L2.locs,aw,et,iY,okO,Lc.slot,bE,dM,BO,e0,q1,q2,rc,h]|false=>have q1:=λe=>oQ (e:=e) (x:=Rm "no") (a:=Rm "yes") (b:=Rm "no") (ax _) (ax _) (ax _);have q2:=tD (a:="no") (b:="yes") (by decide+kernel);have e0:Em false=Rm "no":=rfl;simp?[a9,cy,dc,aZ,cX,bD,b_,ba,lZ,bA,cc,lc,lS,gR,L2.locs,aw,et,iY,okO,Lc.slot,bE,dM,BO,e0,q1,q2,rc,h]
theorem DH{W:aO}(ok:W.Ok){r:List (Int×Bool)}{o:Option Int}(hr:kr W ([],[]) r):a9 ([none,some (.d (.str (Rm "kept")))],[(.s 0,bI W r o)])=some (.str (l_ W r),[(.s 0,bI W r o)]):=by
 have q1:=λe=>oQ (e:=e) (x:=Rm "kept") (a:=Rm "yes") (b:=Rm "no") (ax _) (ax _) (ax _);have q2:=tD (a:="kept") (b:="back") (by decide+kernel);have d1:(Rm "yes"=Rm "kept")=False:=eq_false (by decide+kernel);have d2:(Rm "no"=Rm "kept")=False:=eq_false (by decide+kernel);have q3:(Kj.any λk=>Rm "kept"==k)=true:=by decide+kernel
 have q4:qs.lookup (Rm "kept")=some dg:=by unfold qs;rw[Sm,show(Rm "kept"==("may":Str))=false from by decide+kernel,Sm,show(Rm "kept"==("kept":Str))=true from by decide+kernel]
 have h:=xZ ok hr;unfold bI at*;generalize l_ W r=RES at*;simp?[a9,cy,dc,aZ,cX,bD,b_,Ba,xH,pA,bS,gX,bT,bN,ba,lZ,bA,cc,lc,lS,gR,L2.locs,aw,et,iY,okO,Lc.slot,bE,dM,pL,l7,q1,q2,q3,q4,d1,d2,rc,h]
theorem Gd{W:aO}(ok:W.Ok){r:List (Int×Bool)}{o:Option Int}{k:Int}(hk:iV W k){t:Str}{o':Option Int}(h:br ([none,some (.d (.int k))],[(.s 0,bI W r o)])=some (.str t,[(.s 0,bI W r o')])):a9 ([none,some (.d (.str (Lk k)))],[(.s 0,bI W r o)])=some (.str t,[(.s 0,bI W r o')]):=by
 obtain⟨k0,k1⟩:=id hk;have wl:=ok.len;have k1':k<16:=by lia
 have n5:=MV k0 k1';have q1:=λe=>oQ (e:=e) (x:=Lk k) (a:=Rm "yes") (b:=Rm "no") (Cn k) (ax _) (ax _);have q2:=λe neg=>hJ (e:=e) (neg:=neg) (a:=Lk k) (b:=Rm "back") (Cn k) (ax _);have d0:(Lk k=Rm "back")=False:=eq_false (n5 "back" (by decide));have d1:(Rm "yes"=Lk k)=False:=eq_false λz=>n5 "yes" (by decide) z.symm;have d2:(Rm "no"=Lk k)=False:=eq_false λz=>n5 "no" (by decide) z.symm;have q3:(Kj.any λx=>Lk k==x)=false:=by have e:∀{s:String},s∈["yes","no","may","kept","back","best","bound"]->(Lk k==Rm s)=false:=fun{s}hs=>beq_eq_false_iff_ne.mpr (n5 s hs);show(Lk k==Rm "may"||(Lk k==Rm "best"||(Lk k==Rm "bound"||(Lk k==Rm "kept"||false))))=false;rw[e (by decide),e (by decide),e (by decide),e (by decide)];rfl
 have h2:=wa ok hk;unfold bI at*;generalize Lk k=x at*;simp?[a9,cy,dc,aZ,cX,bD,b_,ou,zh,Ba,pA,bS,gX,bT,bN,ba,lZ,bA,cc,lc,lS,gR,L2.locs,aw,et,iY,okO,Lc.slot,bE,dM,pL,l7,HP,q1,q2,q3,d0,d1,d2,rc,BW,h2,h]
theorem pv{x t:Str}{ob ob':Ob}(hx:RZ t=true)(h:a9 ([none,some (.d (.str x))],[(.s 0,ob)])=some (.str t,[(.s 0,ob')])){fs:List (Str×Rh)}(hb:ob=.dk fs)(hm:fs.lookup ("say":Str)=none):cT ([none,some (.d (.str x)),some (.d (.str t))],[(.s 0,ob)])=some (.bool true,[(.s 0,ob')]):=by subst hb;have q:=λe neg=>hJ (e:=e) (neg:=neg) (a:=t) (b:=t) hx hx;simp?[cT,cy,zy,aZ,ou,bD,ba,lZ,bA,cc,lc,lS,gR,L2.locs,aw,et,iY,okO,Lc.slot,bE,dM,hm,h,q,rc]
theorem Bf{W:aO}(ok:W.Ok){r:List (Int×Bool)}{o:Option Int}(hr:kr W ([],[]) r):bL ([some (.d (ag W)),none,some (.d (.str (Rm "may")))],[(.s 1,.st (r.map dR) (oL o))])=some (.str (gH (W.can (cW W ([],[]) r).1 (cW W ([],[]) r).2)),[(.s 1,.st (r.map dR) (oL o))]):=by
 have st:=hr.st ok (i6.first W);have h1:=fV ok hr;have h3:=Bb ok (taken:=(cW W ([],[]) r).2) st.inw (by have:=(xV ok st).1;lia);obtain⟨c1,c2⟩:=BJ ok (a:=(cW W ([],[]) r).1) (b:=(cW W ([],[]) r).2);have h2:=sy c1 c2;have s1:SX (Rm "may") none (some 4)=Rm "may":=by decide+kernel
 have sl:(Rm "may").length<=1000000:=by decide
 have q1:=tD (a:="may") (b:="ask ") (by decide+kernel);have q2:=tD (a:="may") (b:="yes") (by decide+kernel);have q3:=tD (a:="may") (b:="no") (by decide+kernel);have q4:=Gk "may";generalize gH (W.can (cW W ([],[]) r).1 (cW W ([],[]) r).2)=RES at*;generalize (W.can (cW W ([],[]) r).1 (cW W ([],[]) r).2).map PyData.int=KS at*;generalize c9 (cW W ([],[]) r).1 (cW W ([],[]) r).2=D at*;generalize r.map dR=rs at*;generalize oL o=ws at*;generalize ag W=w at*;simp?[bL,cy,fx,mF,iY,okO,Lc.slot,l5,bN,s1,sl,q1,q2,q3,q4,h1,h2,h3]
theorem Ge{W:aO}(ok:W.Ok){r:List (Int×Bool)}{o:Option Int}(hr:kr W ([],[]) r):a9 ([none,some (.d (.str (Rm "may")))],[(.s 0,bI W r o)])=some (.str (gH (W.can (cW W ([],[]) r).1 (cW W ([],[]) r).2)),[(.s 0,bI W r o)]):=by
 have q1:=λe=>oQ (e:=e) (x:=Rm "may") (a:=Rm "yes") (b:=Rm "no") (ax _) (ax _) (ax _);have q2:=tD (a:="may") (b:="back") (by decide+kernel);have d1:(Rm "yes"=Rm "may")=False:=eq_false (by decide+kernel);have d2:(Rm "no"=Rm "may")=False:=eq_false (by decide+kernel);have q3:(Kj.any λk=>Rm "may"==k)=true:=by decide+kernel
 have q4:qs.lookup (Rm "may")=some ef:=by unfold qs;rw[Sm,show(Rm "may"==("may":Str))=true from by decide+kernel]
 have h:=y_ ok hr;unfold bI at*;generalize gH (W.can (cW W ([],[]) r).1 (cW W ([],[]) r).2)=RES at*;simp?[a9,cy,dc,aZ,cX,bD,b_,Ba,xH,pA,bS,gX,bT,bN,ba,lZ,bA,cc,lc,lS,gR,L2.locs,aw,et,iY,okO,Lc.slot,bE,dM,pL,l7,q1,q2,q3,q4,d1,d2,rc,h]
theorem CA{x0 x1 x2 x4 a b:Option Sv}{ws:List Rh}(hs:Sd (.list ws)=true)(neg:Bool):bc neg [x0,x1,x2,some (.l ws),x4,a,b] (.s 3) (.l [])=some (.d (.bool (if neg then !ws.isEmpty else ws.isEmpty))):=qT rfl hs
noncomputable def wF(r:List (Int×Bool))(o:Option Int):Str:=if r.isEmpty&&o.isNone=true then Rm "NoAsk"else Rm "back"
def zx(r:List (Int×Bool)):Option Int->List (Int×Bool)|some _=>r|none=>r.dropLast
theorem BN(xs:List Rh):L2.cutD xs none (some (-1))=xs.dropLast:=by
 unfold L2.cutD;have h0:HT.sIx xs.length 0 none=0:=rfl;have h1:HT.sIx xs.length xs.length (some (-1))=xs.length-1:=by unfold HT.sIx;simp;lia
 rw[h0,h1,List.drop_zero,Nat.sub_zero,VD]
theorem y8{W:aO}(ok:W.Ok){r:List (Int×Bool)}{o:Option Int}(hr:kr W ([],[]) r):bL ([some (.d (ag W)),none,some (.d (.str (Rm "back")))],[(.s 1,.st (r.map dR) (oL o))])=some (.str (wF r o),[(.s 1,.st ((zx r o).map dR) (oL none))]):=by
 have h1:=fV ok hr;have s1:SX (Rm "back") none (some 4)=Rm "back":=by decide+kernel
 have sl:(Rm "back").length<=1000000:=by decide
 have q1:=tD (a:="back") (b:="ask ") (by decide+kernel);have q2:=tD (a:="back") (b:="yes") (by decide+kernel);have q3:=tD (a:="back") (b:="no") (by decide+kernel);have q4:=tD (a:="back") (b:="may") (by decide+kernel)
 have q5:=tD (a:="back") (b:="kept") (by decide+kernel);have e0:oL none=[]:=rfl;generalize c9 (cW W ([],[]) r).1 (cW W ([],[]) r).2=D at*;generalize ag W=w at*;cases o with|some k=>
  have n1:∀x0 x1 x2 x3 a b,bc false [x0,x1,x2,x3,some (.l (oL (some k))),a,b] (.s 4) (.l [])=some (.d (.bool false)):=λx0 x1 x2 x3 a b=>xm (fK (some k)) false;have eb:wF r (some k)=Rm "back":=by unfold wF;simp
  have c1:oY (oL (some k)) []=some (.none,[]):=rfl;rw[eb];unfold zx;generalize oL (some k)=ws at*;generalize r.map dR=rs at*;simp?[bL,cy,fx,mF,iY,okO,Lc.slot,l5,bN,e0,s1,sl,q1,q2,q3,q4,q5,h1,n1,c1]|none=>
  have n1:∀x0 x1 x2 x3 a b,bc false [x0,x1,x2,x3,some (.l []),a,b] (.s 4) (.l [])=some (.d (.bool true)):=λx0 x1 x2 x3 a b=>xm (fK none) false;have c1:oY [] []=some (.none,[]):=rfl;by_cases hn:r=[];·subst hn;have n3:∀x0 x1 x2 x4 a b,bc false [x0,x1,x2,some (.l []),x4,a,b] (.s 3) (.l [])=some (.d (.bool true)):=λx0 x1 x2 x4 a b=>CA (fK none) false;have eb:wF [] none=Rm "NoAsk":=rfl;rw[eb];unfold zx;simp only[Sy,List.dropLast_nil,e0]at h1⊢;simp?[bL,cy,fx,mF,iY,okO,Lc.slot,l5,bN,e0,s1,sl,q1,q2,q3,q4,q5,h1,n1,n3,c1]
  ·have n3:∀x0 x1 x2 x4 a b,bc false [x0,x1,x2,some (.l (r.map dR)),x4,a,b] (.s 3) (.l [])=some (.d (.bool false)):=λx0 x1 x2 x4 a b=>by rw[CA (tV r) false];cases r with|nil=>exact absurd rfl hn|cons p t=>rfl
   have eb:wF r none=Rm "back":=by unfold wF;cases r with|nil=>exact absurd rfl hn|cons p t=>rfl
   have hl:(r.map dR).length-1<(r.map dR).length:=by cases r with|nil=>exact absurd rfl hn|cons p t=>simp
   obtain⟨d,hp⟩:∃d,(r.map dR)[(r.map dR).length-1]?=some d:=⟨_,SN hl⟩;have hp2:(r.map dR).dropLast=r.dropLast.map dR:=List.map_dropLast.symm;rw[eb];unfold zx;generalize r.dropLast.map dR=rs' at*;generalize r.map dR=rs at*;simp?[bL,cy,fx,mF,iY,okO,Lc.slot,l5,bN,e0,s1,sl,q1,q2,q3,q4,q5,h1,n1,n3,c1,hp,hp2]
theorem EB{W:aO}{r:List (Int×Bool)}{o:Option Int}:bB ([none],[(.s 0,bI W r o)])=some (.str (wF r o),[(.s 0,bI W (zx r o) none)]):=by
 cases o with|some k=>
  have eb:wF r (some k)=Rm "back":=by unfold wF;simp
  rw[eb];unfold zx bI;simp?[bB,cy,cQ,aZ,cX,bD,eX,bz,iQ,bT,aw,iY,okO,Lc.slot,bE,dM,mZ,pK,kO,wO,L2.boolD,qU]|none=>
  by_cases hn:r=[];·subst hn;have eb:wF [] none=Rm "NoAsk":=rfl;rw[eb];unfold zx bI;simp?[bB,cy,cQ,aZ,cX,bD,eX,bz,iQ,pz,bS,gX,bT,aw,iY,okO,Lc.slot,bE,dM,mZ,l7,pK,kO,vd,wO,L2.boolD,lF]
  ·have eb:wF r none=Rm "back":=by unfold wF;cases r with|nil=>exact absurd rfl hn|cons p t=>rfl
   have hpos:0<r.length:=List.length_pos_iff.mpr hn;have hl:((r.map dR).length:Int)=(r.length:Int):=by simp
   have sl:∀e:En,HX e (.d (.tuple (r.map dR))) none (some (-1))=some (.d (.tuple (r.dropLast.map dR))):=λe=>by unfold HX;simp only[e_,SE];rw[BN,List.map_dropLast];rfl
   rw[eb];unfold zx bI;generalize r.dropLast.map dR=rs' at*;generalize r.map dR=rs at*;generalize r.length=n at*;simp?[bB,cy,cQ,aZ,cX,bD,eX,bz,iQ,pz,bS,gX,GD,bT,aw,iY,okO,Lc.slot,bE,dM,mZ,l7,pK,kO,vd,wO,L2.boolD,lF,sl,hl,hpos]
theorem DG{W:aO}{r:List (Int×Bool)}{o:Option Int}:a9 ([none,some (.d (.str (Rm "back")))],[(.s 0,bI W r o)])=some (.str (wF r o),[(.s 0,bI W (zx r o) none)]):=by have q1:=λe=>oQ (e:=e) (x:=Rm "back") (a:=Rm "yes") (b:=Rm "no") (ax _) (ax _) (ax _);have q2:=Gk "back";have d1:(Rm "yes"=Rm "back")=False:=eq_false (by decide+kernel);have d2:(Rm "no"=Rm "back")=False:=eq_false (by decide+kernel);have h:=EB (W:=W) (r:=r) (o:=o);have m0:∀r o,∃gs,bI W r o=.dk gs/\gs.lookup ("take_back":Str)=none:=λr o=>⟨_,rfl,rfl⟩;obtain⟨gs,hd,hn⟩:=m0 r o;rw[hd]at h⊢;generalize bI W (zx r o) none=D1 at*;generalize wF r o=RES at*;simp?[a9,cy,dc,aZ,cX,bD,b_,ba,lZ,cc,lc,lS,gR,L2.locs,aw,et,iY,okO,Lc.slot,bE,dM,hn,d1,d2,rc,q1,q2,h]
theorem E5{W:aO}{a t:List Int}{k:Int}(h:W.may a t k=true):k∉a:=by simp only[aO.may,Sr,Bool.not_eq_true',List.contains_eq_mem,decide_eq_false_iff_not]at h;intro z;simp_all
theorem zZ(ks:List Int):RZ (gH ks)=true:=by
 unfold gH;split;·exact ax _
 ·exact sv (ax _) _ λt ht=>by obtain⟨k,-,rfl⟩:=Q_ ht;exact ui k
theorem Ca(W:aO)(r:List (Int×Bool)):RZ (l_ W r)=true:=iB (iB (zZ _) (ax _)) (ui _)
theorem Es(W:aO)(k:Int)(b:Bool):RZ (As W k b)=true:=by
 unfold As;split;·exact iB (ax _) (ui _)
 ·exact ax _
structure Iv (W:aO) (r:List (Int×Bool)) (o:Option Int):Prop where
 run:kr W ([],[]) r
 wait:∀k,o=some k->iV W k/\k∉(cW W ([],[]) r).1
def fg(r:List (Int×Bool))(o:Option Int):Ob:=.st (r.map dR) (oL o)
def Tl(W:aO)(x:Str)(r:List (Int×Bool))(o:Option Int)(r':List (Int×Bool))(o':Option Int)(t:Str):Prop:=bL ([some (.d (ag W)),none,some (.d (.str x))],[(.s 1,fg r o)])=some (.str t,[(.s 1,fg r' o')])/\cT ([none,some (.d (.str x)),some (.d (.str t))],[(.s 0,bI W r o)])=some (.bool true,[(.s 0,bI W r' o')])
theorem oX{W:aO}(ok:W.Ok){r:List (Int×Bool)}{o:Option Int}(h:Iv W r o){x:Str}(hx:Ln W False x):∃r' o' t,Iv W r' o'/\Tl W x r o r' o' t:=by
 have hl:=h.run.len ok;have yn:∀b,∃r' o' t,Iv W r' o'/\Tl W (Em b) r o r' o' t:=λb=>by cases o with|none=>exact⟨r,none,_,h,y6 ok h.run b,pv (ax _) (DK b (EA b)) rfl rfl⟩|some k=>obtain⟨hk,hn⟩:=h.wait k rfl;exact⟨r++[(k,b)],none,_,⟨h.run.snoc hk hn,λj z=>by cases z⟩,Bd ok h.run hk b,pv (Es _ _ _) (DK b (HM ok hl hk b)) rfl rfl⟩
 cases hx with|ask hk=>
  rename_i k;obtain⟨g,hg⟩:∃g,g=(o.isNone&&W.may (cW W ([],[]) r).1 (cW W ([],[]) r).2 k):=⟨_,rfl⟩;refine⟨r,if g=true then some k else o,if g=true then Rm "asked"else Rm "NoAsk",⟨h.run,λj z=>?_⟩,Be ok h.run hk g hg,pv (by split<;>exact ax _) (Gd ok hk (HN ok h.run hk g hg)) rfl rfl⟩;by_cases c:g=true;·rw[if_pos c]at z;cases z;rw[c]at hg;exact⟨hk,E5 (Wm.mp hg.symm).2⟩
  ·rw[if_neg c]at z;exact h.wait j z|yes=>exact yn true|no=>exact yn false|back z=>exact z.elim
theorem ua{W:aO}(ok:W.Ok){r:List (Int×Bool)}{o:Option Int}(h:Iv W r o):Tl W (Rm "kept") r o r o (l_ W r):=⟨y9 ok h.run,pv (Ca W r) (DH ok h.run) rfl rfl⟩
theorem wX{W1:List Nat}{g:FG}{f:XS}(P:Nat->EX->Prop):∀(items:List Rh) (k:Nat) (x:EX),(∀i d x,items[i]?=some d->P (k+i) x->∃e1 x2,iY W1 x.2=true/\g d x.1=some e1/\okO x.2 e1=true/\f (e1,x.2)=some (.nx x2)/\P (k+i+1) x2)->P k x->∃x',wW W1 g f items x=some (.nx x')/\P (k+items.length) x'|[],k,x,_,h=>⟨x,rfl,h⟩|d::r,k,x,hs,h=>by obtain⟨e1,x2,h1,h2,h3,h4,h5⟩:=hs 0 d x rfl h;obtain⟨x',h6,h7⟩:=wX P r (k+1) x2 (λi y x hy hp=>by have:=hs (i+1) y x (by simpa using hy) (by rw[show k+(i+1)=k+1+i by lia];exact hp);rw[show k+(i+1)+1=k+1+i+1 by lia]at this;exact this) h5;refine⟨x',?_,by rw[Tp,show k+(r.length+1)=k+1+r.length by lia];exact h7⟩;unfold wW;simp only[h1,h2,h3,h4,RK,if_true];exact h6
theorem HH(r:List (Int×Bool))(o:Option Int):RZ (wF r o)=true:=by unfold wF;split<;>exact ax _
theorem xl{W:aO}(ok:W.Ok){r:List (Int×Bool)}{o:Option Int}(h:Iv W r o):Tl W (Rm "may") r o r o (gH (W.can (cW W ([],[]) r).1 (cW W ([],[]) r).2)):=⟨Bf ok h.run,pv (zZ _) (Ge ok h.run) rfl rfl⟩
theorem Bz{W:aO}{r:List (Int×Bool)}{o:Option Int}(h:Iv W r o):Iv W (zx r o) none:=⟨by cases o with|some k=>exact h.run|none=>show kr W ([],[]) r.dropLast;rw[VD];exact h.run.take _,λk z=>by cases z⟩
theorem oM{W:aO}(ok:W.Ok){r:List (Int×Bool)}{o:Option Int}(h:Iv W r o):Tl W (Rm "back") r o (zx r o) none (wF r o):=⟨y8 ok h.run,pv (HH _ _) DG rfl rfl⟩
theorem rg{W:aO}(ok:W.Ok){r:List (Int×Bool)}{o:Option Int}(h:Iv W r o){x:Str}(hx:Ln W True x):∃r' o' t,Iv W r' o'/\Tl W x r o r' o' t:=by cases hx with|ask hk=>exact oX ok h (.ask hk)|yes=>exact oX ok h .yes|no=>exact oX ok h .no|back _=>exact⟨_,_,_,Bz h,oM ok h⟩
theorem zT(a b:Ob):Sg (Lc.s 0) [(Lc.s 0,a),(Lc.s 2,b)]=some a:=rfl
theorem zU(a b:Ob):Sg (Lc.s 2) [(Lc.s 0,a),(Lc.s 2,b)]=some b:=rfl
theorem LY(a b o:Ob):kn (.s 0) o [(Lc.s 0,a),(Lc.s 2,b)]=[(Lc.s 0,o),(Lc.s 2,b)]:=rfl
theorem LZ(a b o:Ob):kn (.s 2) o [(Lc.s 0,a),(Lc.s 2,b)]=[(Lc.s 0,a),(Lc.s 2,o)]:=rfl
def Rt(W:aO)(x:Str)(r:List (Int×Bool))(o:Option Int)(r':List (Int×Bool))(o':Option Int):Prop:=iI ([none,some (.d (ag W)),none,some (.d (.str x))],[(.s 0,bI W r o),(.s 2,fg r o)])=some (.bool true,[(.s 0,bI W r' o'),(.s 2,fg r' o')])
theorem mE{W:aO}(ok:W.Ok){x t:Str}{r r':List (Int×Bool)}{o o':Option Int}(h':Iv W r' o')(hT:Tl W x r o r' o' t):Rt W x r o r' o':=by obtain⟨p1,p2⟩:=hT;obtain⟨m1,m2⟩:=xl ok h';obtain⟨k1,k2⟩:=ua ok h';unfold Rt;generalize gH (W.can (cW W ([],[]) r').1 (cW W ([],[]) r').2)=D at*;generalize l_ W r'=KS at*;generalize bI W r o=D0 at*;generalize bI W r' o'=D1 at*;generalize fg r o=S0 at*;generalize fg r' o'=S1 at*;generalize ag W=w at*;simp?[iI,cy,wG,aZ,cX,bD,b_,wk,fj,bz,ba,l4,bA,cc,lc,lS,gR,L2.locs,aw,iY,okO,Lc.slot,bE,zT,zU,LY,LZ,L2.boolD,p1,p2,m1,m2,k1,k2]
def eK(ns ds:List Int)(W V:aO)(v5 v6 v7 v9:Option Rh):En:=[some (.d (.list (ns.map .int))),some (.l (ds.map .int)),some (.l [ag W,ag V]),none,none,v5.map .d,v6.map .d,v7.map .d,none,v9.map .d,none]
def lV(s0 s1 d0 d1:Ob):gc:=[(.it 4 0,s0),(.it 4 1,s1),(.it 3 0,d0),(.it 3 1,d1)]
structure P2 where r:List (Int×Bool)o:Option Int
def gN(W V:aO)(p q:P2):gc:=lV (fg p.r p.o) (fg q.r q.o) (bI W p.r p.o) (bI V q.r q.o)
theorem Nx(a b c d:Ob):Sg (Lc.it 4 0) (lV a b c d)=some a:=rfl
theorem Ny(a b c d:Ob):Sg (Lc.it 4 1) (lV a b c d)=some b:=rfl
theorem Nu(a b c d:Ob):Sg (Lc.it 3 0) (lV a b c d)=some c:=rfl
theorem Nv(a b c d:Ob):Sg (Lc.it 3 1) (lV a b c d)=some d:=rfl
theorem NC(a b c d o:Ob):kn (Lc.it 4 0) o (lV a b c d)=lV o b c d:=rfl
theorem ND(a b c d o:Ob):kn (Lc.it 4 1) o (lV a b c d)=lV a o c d:=rfl
theorem NA(a b c d o:Ob):kn (Lc.it 3 0) o (lV a b c d)=lV a b o d:=rfl
theorem NB(a b c d o:Ob):kn (Lc.it 3 1) o (lV a b c d)=lV a b c o:=rfl
theorem K7(a b c d:Ob){e:En}(h3:e[3]?=some none)(h4:e[4]?=some none):okO (lV a b c d) e=true:=by simp[okO,lV,Lc.slot,h3,h4]
def Bq(W:aO)(p:P2):Prop:=Iv W p.r p.o
theorem DX{f g:XS}{x x1:EX}(h:f x=some (.nx x1)):aZ f g x=g x1:=by unfold aZ;rw[h];rfl
theorem zY{W V:aO}{x:Str}{r r':List (Int×Bool)}{o o':Option Int}{q:P2}{ns d0:List Int}{v5 v9:Option Rh}(w:Int)(hw:w=0\/w=1)(hR:Rt (if w=0 then W else V) x r o r' o'):cX (fj (bz (ba 4 iI (ya 3 (ab 6) (bA (aw (aA dI (ab 2) (ab 6))) (ya 4 (ab 6) (bA (aw (ab 7)) cc))))))) (bD (aw (vC (.bool false)))) b_ (eK ns d0 W V v5 (some (.int w)) (some (.str x)) v9,if w=0 then gN W V ⟨r,o⟩ q else gN W V q ⟨r,o⟩)=some (.nx (eK ns d0 W V v5 (some (.int w)) (some (.str x)) v9,if w=0 then gN W V ⟨r',o'⟩ q else gN W V q ⟨r',o'⟩)):=by
 have ok4:∀(a b c d:Ob),okO (lV a b c d) [some (.d (.list (ns.map .int))),some (.l (d0.map .int)),some (.l [ag W,ag V]),none,none,v5.map .d,some (.d (.int w)),some (.d (.str x)),none,v9.map .d,none]=true:=λa b c d=>K7 a b c d rfl rfl;have a0:atI [ag W,ag V] 0=some (ag W):=rfl;have a1:atI [ag W,ag V] 1=some (ag V):=rfl;unfold Rt at hR;unfold gN eK;rcases hw with rfl|rfl;·rw[if_pos rfl]at hR;simp only[if_true];generalize bI W r o=D0 at*;generalize bI W r' o'=D1 at*;generalize bI V q.r q.o=D2 at*;generalize fg q.r q.o=S2 at*;generalize fg r o=S0 at*;generalize fg r' o'=S1 at*;generalize ag W=wb at*;generalize ag V=wv at*;generalize ns.map PyData.int=N at*;generalize d0.map PyData.int=d0 at*;generalize v5.map Sv.d=u5 at*;generalize v9.map Sv.d=u9 at*;simp?[cX,b_,fj,bz,ba,ya,bA,cc,lc,lS,gR,L2.locs,aw,bE,Nu,Nv,Nx,Ny,NA,NB,NC,ND,ok4,L2.boolD,a0,a1,hR,zT,zU]
 ·rw[if_neg (by decide)]at hR;simp only[if_neg (show¬(1:Int)=0 by decide)];generalize bI V r o=D0 at*;generalize bI V r' o'=D1 at*;generalize bI W q.r q.o=D2 at*;generalize fg q.r q.o=S2 at*;generalize fg r o=S0 at*;generalize fg r' o'=S1 at*;generalize ag W=wb at*;generalize ag V=wv at*;generalize ns.map PyData.int=N at*;generalize d0.map PyData.int=d0 at*;generalize v5.map Sv.d=u5 at*;generalize v9.map Sv.d=u9 at*;simp?[cX,b_,fj,bz,ba,ya,bA,cc,lc,lS,gR,L2.locs,aw,bE,Nu,Nv,Nx,Ny,NA,NB,NC,ND,ok4,L2.boolD,a0,a1,hR,zT,zU]
theorem EL{W V:aO}(okW':W.Ok)(okV:V.Ok){ns ds:List Int}(hd:lR ds){v5 v6 v7 v9:Option Rh}{p q:P2}(hp:Bq W p)(hq:Bq V q):∃ds' v6' v7' p' q',Kq (eK ns ds W V v5 v6 v7 v9,gN W V p q)=some (.nx (eK ns ds' W V v5 v6' v7' v9,gN W V p' q'))/\lR ds'/\Bq W p'/\Bq V q':=by
 have n1:=y' ds;have gm:∀e:En,bK e (.d (.int (nx ds))) (.d (.int 2))=some (.d (.int (nx ds%2))):=λe=>be (by decide);have hd1:lR ds.tail:=λx hx=>hd x (Wj hx);have hd2:lR ds.tail.tail:=λx hx=>hd1 x (Wj hx);obtain⟨w,hw,hg⟩:∃w:Int,(w=0\/w=1)/\nx ds%2=w:=⟨nx ds%2,by lia,rfl⟩;have ok4:∀{e:En},e[3]?=some none->e[4]?=some none->okO (gN W V p q) e=true:=λh4 h5=>K7 _ _ _ _ h4 h5;have s1:ek [6] (bx 6 (aA bK (dG 1 bO (aa (ab 1) ah)) (vC (.int 2)))) (eK ns ds W V v5 v6 v7 v9,gN W V p q)=some (.nx (eK ns ds.tail W V v5 (some (.int w)) v7 v9,gN W V p q)):=by have hq:=ok4 (e:=eK ns ds.tail W V v5 (some (.int w)) v7 v9) rfl rfl;have hw:iY [6] (gN W V p q)=true:=rfl;unfold eK at*;rw[hg]at gm;generalize nx ds=n0 at*;generalize gN W V p q=OB at*;generalize ag W=wb at*;generalize ag V=wv at*;generalize ns.map PyData.int=N at*;generalize ds.tail.map PyData.int=d1 at*;generalize ds.map PyData.int=d0 at*;generalize v5.map Sv.d=u5 at*;generalize v6.map Sv.d=u6 at*;generalize v7.map Sv.d=u7 at*;generalize v9.map Sv.d=u9 at*;simp?[ek,hw,n1,gm];exact hq
 have key:∀(U:aO),U.Ok->ag (if w=0 then W else V)=ag U->∃x,Ln U True x/\ek [7] (bx 7 (dG 3 kZ (aa (ab 1) (aa (aA dI (ab 2) (ab 6)) (aa (dq (aa (vC (.str ("ask":Str))) (aa (vC (.str ("yes":Str))) (aa (vC (.str ("ask":Str))) (aa (vC (.str ("no":Str))) (aa (vC (.str ("back":Str))) ah)))))) ah))))) (eK ns ds.tail W V v5 (some (.int w)) v7 v9,gN W V p q)=some (.nx (eK ns ds.tail.tail W V v5 (some (.int w)) (some (.str x)) v9,gN W V p q)):=λU okU hU=>by
  obtain⟨x,hx,ht⟩:=JY okU hd1 (menu:=[Rm "ask",Rm "yes",Rm "ask",Rm "no",Rm "back"]) (by decide+kernel) (by decide);rw[show(Rm "back"∈[Rm "ask",Rm "yes",Rm "ask",Rm "no",Rm "back"])=True from eq_true (by decide+kernel)]at hx;simp only[Sb,Sy]at ht;refine⟨x,hx,?_⟩;have hq:=ok4 (e:=eK ns ds.tail.tail W V v5 (some (.int w)) (some (.str x)) v9) rfl rfl;have hw':iY [7] (gN W V p q)=true:=rfl;have ai:atI [ag W,ag V] w=some (ag U):=by rw[<-hU];rcases hw with rfl|rfl<;>rfl
  unfold eK at*;generalize gN W V p q=OB at*;generalize ag U=wu at*;generalize ag W=wb at*;generalize ag V=wv at*;generalize ns.map PyData.int=N at*;generalize ds.tail.tail.map PyData.int=d2 at*;generalize ds.tail.map PyData.int=d1 at*;generalize v5.map Sv.d=u5 at*;generalize v7.map Sv.d=u7 at*;generalize v9.map Sv.d=u9 at*;simp?[ek,hw',ht,ai];exact hq
 unfold Kq;rcases hw with rfl|rfl;·obtain⟨x,hx,s2⟩:=key W okW' rfl;obtain⟨r',o',t,h',p1⟩:=rg okW' hp hx;rw[DX s1,DX s2];exact⟨ds.tail.tail,some (.int 0),some (.str x),⟨r',o'⟩,q,zY 0 (.inl rfl) (by rw[if_pos rfl];exact mE okW' h' p1),hd2,h',hq⟩
 ·obtain⟨x,hx,s2⟩:=key V okV rfl;obtain⟨r',o',t,h',p1⟩:=rg okV hq hx;rw[DX s1,DX s2];exact⟨ds.tail.tail,some (.int 1),some (.str x),p,⟨r',o'⟩,zY 1 (.inr rfl) (by rw[if_neg (by decide)];exact mE okV h' p1),hd2,hp,h'⟩
theorem lE:∀ds:List Int,bJ (ds.map PyData.int)=true|[]=>rfl|d::r=>by simp[bJ,gy,lE r]
theorem tX(W:aO):gy (ag W)=true:=by
 have ties:∀ts:List l6,bJ (ts.map ce)=true:=λts=>by induction ts with|nil=>rfl|cons t r ih=>simp[bJ,ce,gy,ih]
 unfold ag;simp[gy,bJ,lE,ties]
theorem wV(W:aO)(r:List (Int×Bool))(o:Option Int):qQ (bI W r o)=true:=by
 have rs:∀r:List (Int×Bool),bJ (r.map dR)=true:=λr=>by induction r with|nil=>rfl|cons t r ih=>simp[bJ,dR,gy,ih]
 unfold bI qQ yu;cases o<;>simp[tX,gy,rs,wO]
def p0:P2:=⟨[],none⟩
theorem EK{W V:aO}(okW':W.Ok)(okV:V.Ok){ns ds:List Int}(hd:lR ds){v5 v6 v7 v9:Option Rh}:∃ds' v5' v6' v7' p q,xJ [5] MO (am 5) Kq (eK ns ds W V v5 v6 v7 v9,gN W V p0 p0)=some (.nx (eK ns ds' W V v5' v6' v7' v9,gN W V p q))/\Bq W p/\Bq V q:=by have z0:∀W,Bq W p0:=λW=>⟨trivial,λk z=>by cases z⟩;obtain⟨x',h1,d,w5,w6,w7,p,q,rfl,-,hp,hq⟩:=wX (W1:=[5]) (g:=am 5) (f:=Kq) (λ_ x=>∃d w5 w6 w7 p q,x=(eK ns d W V w5 w6 w7 v9,gN W V p q)/\lR d/\Bq W p/\Bq V q) (bC 0 40) 0 (eK ns ds W V v5 v6 v7 v9,gN W V p0 p0) (λi d x hx hI=>by obtain⟨ds1,w5,w6,w7,p,q,rfl,hd1,hi,hj⟩:=hI;obtain⟨ds2,w6',w7',p',q',h2,hd2,hi2,hj2⟩:=EL okW' okV (ns:=ns) hd1 (v5:=some d) (v6:=w6) (v7:=w7) (v9:=v9) hi hj;exact⟨eK ns ds1 W V (some d) w6 w7 v9,_,rfl,rfl,rfl,h2,ds2,_,w6',w7',p',q',rfl,hd2,hi2,hj2⟩) ⟨ds,v5,v6,v7,p0,p0,rfl,hd,z0 W,z0 V⟩;have hi:MO (eK ns ds W V v5 v6 v7 v9)=some (bC 0 40,[],eK ns ds W V v5 v6 v7 v9):=ee (n:=40) rfl (by decide) (by decide);refine⟨d,w5,w6,w7,p,q,?_,hp,hq⟩;unfold xJ;rw[hi];exact h1
def ph(aB:gc):Prop:=aB=[]\/∃(V:aO) (q:P2),aB=[(Lc.it 4 1,fg q.r q.o),(Lc.it 3 1,bI V q.r q.o)]
def ku(a b:Ob)(aB:gc):gc:=(.s 10,b)::(.s 8,a)::aB
theorem BR(r:List (Int×Bool))(o:Option Int):qQ (fg r o)=true:=by
 have rs:∀r:List (Int×Bool),bJ (r.map dR)=true:=λr=>by induction r with|nil=>rfl|cons t r ih=>simp[bJ,dR,gy,ih]
 show(bJ (r.map dR)&&bJ (oL o))=true;rw[rs];cases o<;>rfl
theorem ph.all{aB:gc}(h:ph aB):∀p∈aB,(p.1.slot=3\/p.1.slot=4)/\qQ p.2=true:=λp hp=>by
 rcases h with rfl|⟨V,q,rfl⟩;·cases hp
 ·rcases Re hp with rfl|hp;·exact⟨.inr rfl,BR _ _⟩
  ·rw[RW]at hp;subst hp;exact⟨.inl rfl,wV _ _ _⟩
theorem HQ{ns ds:List Int}{W V:aO}{v5 v6 v7 v9:Option Rh}{j:Nat}{s:Sv}(h1:j≠1)(h2:j≠2)(h:(eK ns ds W V v5 v6 v7 v9)[j]?=some (some s)):∃d,s=.d d:=by
 unfold eK at h;have mp:∀{v:Option Rh}{s:Sv},v.map Sv.d=some s->∃d,s=.d d:=fun{v s}h=>by obtain⟨d,_,rfl⟩:=Q7 h;exact⟨d,rfl⟩
 match j with|0=>cases h;exact⟨_,rfl⟩|1=>exact absurd rfl h1|2=>exact absurd rfl h2|3=>cases h|4=>cases h|5=>exact mp (SB h)|6=>exact mp (SB h)|7=>exact mp (SB h)|8=>cases h|9=>exact mp (SB h)|10=>cases h|j+11=>simp at h
theorem za{ns ds:List Int}{W V U:aO}{v5 v6 v7 v9:Option Rh}{r:List (Int×Bool)}{o:Option Int}{aB ob:gc}(hr:ph aB)(hl:ob.lookup (.s 10)=some (fg r o))(hf:j5 10 ob=(.s 8,bI U r o)::aB):Kd (eK ns ds W V v5 v6 v7 v9,ob)=some (!(r.isEmpty&&o.isNone),(eK ns ds W V v5 v6 v7 v9,ku (bI U r o) (fg r o) aB)):=by
 obtain⟨E,hE⟩:∃E,E=eK ns ds W V v5 v6 v7 v9:=⟨_,rfl⟩;obtain⟨E2,hE2⟩:∃E2,E2=E.set 10 (some (Sv.d (.tuple [.list (r.map dR),.list (oL o)]))):=⟨_,rfl⟩;have oks:okO ((Lc.s 8,bI U r o)::aB) E2=true:=by rw[hE2,hE];rcases hr with rfl|⟨V',q,rfl⟩<;>rfl
 have n1:∀e:En,bc true e (.d (.list (r.map dR))) (.l [])=some (.d (.bool (!r.isEmpty))):=λe=>by rw[qS (tV r)];cases r<;>rfl
 have n2:∀e:En,bc true e (.d (.list (oL o))) (.l [])=some (.d (.bool (!o.isNone))):=λe=>by rw[qS (fK o)];cases o<;>rfl
 have s1:et (tF (az (aA (bc true) (aA dI (ab 10) (vC (.int 0))) (dq ah))) (az (aA (bc true) (aA dI (ab 10) (vC (.int 1))) (dq ah)))) (E2,(Lc.s 8,bI U r o)::aB)=some (!(r.isEmpty&&o.isNone),(E2,(Lc.s 8,bI U r o)::aB)):=by
  have hb:(!(r.isEmpty&&o.isNone))=(!r.isEmpty||!o.isNone):=by cases r.isEmpty<;>rfl
  rw[hb];rw[hE2,hE]at*;unfold eK at*;generalize (Lc.s 8,bI U r o)::aB=OB at*;generalize r.map dR=rs at*;generalize oL o=os at*;generalize r.isEmpty=b1 at*;generalize o.isNone=b2 at*;generalize ag W=wb at*;generalize ag V=wv at*;generalize ns.map PyData.int=N at*;generalize ds.map PyData.int=d1 at*;generalize v5.map Sv.d=u5 at*;generalize v6.map Sv.d=u6 at*;generalize v7.map Sv.d=u7 at*;generalize v9.map Sv.d=u9 at*;cases b1<;>simp?[et,n1,n2]<;>exact oks
 have fl:Bo [] 10 (E,ob) (E2,(Lc.s 8,bI U r o)::aB):=by
  refine⟨λj s n5 hs=>?_,λp hp=>?_⟩
  ·dsimp only at hs⊢;have hs':E[j]?=some (some s):=by rw[hE2,RI (RJ n5)]at hs;exact hs
   by_cases c1:j=1;·subst c1;rw[hE]at hs';have hs:some (some (Sv.l (ds.map .int)))=some (some s):=hs';cases hs;exact .inl (lE ds)
   by_cases c2:j=2;·subst c2;rw[hE]at hs';have hs:some (some (Sv.l [ag W,ag V]))=some (some s):=hs';cases hs;exact .inl (by simp[zD,bJ,tX])
   ·exact .inr ⟨by simp,hs',by rw[hE]at hs';exact HQ c1 c2 hs'⟩
  ·have hin:p∈ob:=by
    have:p∈j5 10 ob:=by rw[hf];exact hp
    exact(Tj.mp this).1
   rcases Re hp with rfl|hp;·exact⟨show 8≠10 by decide,wV U r o,.inl ⟨8,rfl⟩⟩
   ·obtain⟨h1,h2⟩:=hr.all p hp;exact⟨by lia,h2,.inr ⟨by simp,p.2,hin⟩⟩
 rw[<-hE];unfold Kd Gs;dsimp only;rw[hl];have e1:fg r o=.st (r.map dR) (oL o):=rfl;rw[e1];dsimp only;rw[hf,<-hE2,s1,RK];rw[if_pos fl];unfold GS ku;rw[hE2,hE];rfl
theorem HI{ns ds:List Int}{W V U:aO}{v5 v6 v7:Option Rh}{r r':List (Int×Bool)}{o o':Option Int}{aB:gc}(hr:ph aB)(hR:Rt U (Rm "back") r o r' o'):Kb (eK ns ds W V v5 v6 v7 (some (ag U)),ku (bI U r o) (fg r o) aB)=some (.nx (eK ns ds W V v5 v6 v7 (some (ag U)),ku (bI U r' o') (fg r' o') aB)):=by
 have l8:∀a b,Sg (Lc.s 8) (ku a b aB)=some a:=λa b=>rfl;have l10:∀a b,Sg (Lc.s 10) (ku a b aB)=some b:=λa b=>rfl;have q8:∀a b o,kn (Lc.s 8) o (ku a b aB)=ku o b aB:=λa b o=>by rcases hr with rfl|⟨V',q,rfl⟩<;>rfl
 have q10:∀a b o,kn (Lc.s 10) o (ku a b aB)=ku a o aB:=λa b o=>by rcases hr with rfl|⟨V',q,rfl⟩<;>rfl
 have ok9:∀a b,okO (ku a b aB) (eK ns ds W V v5 v6 v7 (some (ag U)))=true:=λa b=>by rcases hr with rfl|⟨V',q,rfl⟩<;>rfl
 unfold Rt at hR;unfold Kb eK at*;generalize bI U r o=D0 at*;generalize bI U r' o'=D1 at*;generalize fg r o=S0 at*;generalize fg r' o'=S1 at*;generalize ag U=wu at*;generalize ag W=wb at*;generalize ag V=wv at*;generalize ns.map PyData.int=N at*;generalize ds.map PyData.int=d1 at*;generalize v5.map Sv.d=u5 at*;generalize v6.map Sv.d=u6 at*;generalize v7.map Sv.d=u7 at*;have ok9':∀a b,okO (ku a b aB) [some (.d (.list N)),some (.l d1),some (.l [wb,wv]),none,none,u5,u6,u7,none,some (.d wu),none]=true:=ok9;simp?[cX,b_,fj,bz,ba,l4,bA,cc,lc,lS,gR,L2.locs,aw,bE,l8,l10,q8,q10,ok9',L2.boolD,hR,zT,zU]
theorem Ao{ns ds:List Int}{W V U:aO}(okU:U.Ok){v5 v6 v7:Option Rh}{aB:gc}(hr:ph aB):∀(n fuel:Nat) (r:List (Int×Bool)) (o:Option Int),r.length+(if o.isNone=true then 0 else 1)=n->n<fuel->Iv U r o->je Kd Kb fuel (eK ns ds W V v5 v6 v7 (some (ag U)),ku (bI U r o) (fg r o) aB)=some (.nx (eK ns ds W V v5 v6 v7 (some (ag U)),ku (bI U [] none) (fg [] none) aB))
 |n,0,_,_,_,h,_=>absurd h (by lia)|n,fuel+1,r,o,hn,hf,hI=>by
  have hof:j5 10 (ku (bI U r o) (fg r o) aB)=(.s 8,bI U r o)::aB:=by rcases hr with rfl|⟨V',q,rfl⟩<;>rfl
  have ht:=za (ns:=ns) (ds:=ds) (W:=W) (V:=V) (v5:=v5) (v6:=v6) (v7:=v7) (v9:=some (ag U)) hr (ob:=ku (bI U r o) (fg r o) aB) (r:=r) (o:=o) (U:=U) rfl hof;unfold je;rw[ht,RK];cases c:(r.isEmpty&&o.isNone) with|true=>rw[Sr]at c;have e1:r=[]:=List.isEmpty_iff.mp c.1;have e2:o=none:=Option.isNone_iff_eq_none.mp c.2;subst e1 e2;rfl|false=>have hR:=mE okU (Bz hI) (oM okU hI);have hb:=HI (ns:=ns) (ds:=ds) (W:=W) (V:=V) (v5:=v5) (v6:=v6) (v7:=v7) hr hR;rw[if_pos (show(!false)=true from rfl),hb,RK];refine Ao okU hr _ fuel _ _ rfl ?_ (Bz hI);cases o with|some k=>simp only[zx,Option.isNone_none,if_true,Option.isNone_some]at hn⊢;have:r.length+1=n:=hn;lia|none=>cases r with|nil=>cases c|cons p t=>simp only[zx,Option.isNone_none,if_true,List.length_dropLast,Tp]at hn⊢;lia
theorem KQ{W:aO}:l_ W []=Rm "none 0":=by show gH []++Rm " "++nS 0=_;decide+kernel
theorem D8{ns ds:List Int}{W V U:aO}(okU:U.Ok){v5 v6 v7:Option Rh}{r:List (Int×Bool)}{o:Option Int}{aB:gc}(hr:ph aB)(hI:Iv U r o):Kc (eK ns ds W V v5 v6 v7 (some (ag U)),(.s 8,bI U r o)::(.s 10,fg r o)::aB)=some (.nx (eK ns ds W V v5 v6 v7 (some (ag U)),ku (bI U [] none) (fg [] none) aB)):=by
 have hl:=hI.run.len okU;have hof1:j5 10 ((Lc.s 8,bI U r o)::(.s 10,fg r o)::aB)=(.s 8,bI U r o)::aB:=by rcases hr with rfl|⟨V',q,rfl⟩<;>rfl
 have hof2:j5 10 (ku (bI U r o) (fg r o) aB)=(.s 8,bI U r o)::aB:=by rcases hr with rfl|⟨V',q,rfl⟩<;>rfl
 have t1:=za (ns:=ns) (ds:=ds) (W:=W) (V:=V) (v5:=v5) (v6:=v6) (v7:=v7) (v9:=some (ag U)) hr (ob:=(Lc.s 8,bI U r o)::(.s 10,fg r o)::aB) (r:=r) (o:=o) (U:=U) rfl hof1;have t2:=za (ns:=ns) (ds:=ds) (W:=W) (V:=V) (v5:=v5) (v6:=v6) (v7:=v7) (v9:=some (ag U)) hr (ob:=ku (bI U r o) (fg r o) aB) (r:=r) (o:=o) (U:=U) rfl hof2;have s1:∀m,17<m->je Kd Kb m (eK ns ds W V v5 v6 v7 (some (ag U)),(.s 8,bI U r o)::(.s 10,fg r o)::aB)=some (.nx (eK ns ds W V v5 v6 v7 (some (ag U)),ku (bI U [] none) (fg [] none) aB)):=λm hm=>by obtain⟨m',rfl⟩:∃m',m=m'+1:=⟨m-1,by lia⟩;have:=Ao (ns:=ns) (ds:=ds) (W:=W) (V:=V) okU (v5:=v5) (v6:=v6) (v7:=v7) hr (r.length+(if o.isNone=true then 0 else 1)) (m'+1) r o rfl (by split<;>lia) hI;rw[<-this];unfold je;rw[t1,t2]
 have s2:v0 (2^4200) Kd Kb (eK ns ds W V v5 v6 v7 (some (ag U)),(.s 8,bI U r o)::(.s 10,fg r o)::aB)=some (.nx (eK ns ds W V v5 v6 v7 (some (ag U)),ku (bI U [] none) (fg [] none) aB)):=s1 _ (So (show 17<2^5 by decide) (UX (by decide) (by decide)));have Mc:Iv U [] none:=⟨trivial,λk z=>by cases z⟩;have k1:cT ([none,some (.d (.str (Rm "back"))),some (.d (.str (Rm "NoAsk")))],[(.s 0,bI U [] none)])=some (.bool true,[(.s 0,bI U [] none)]):=(oM okU Mc).2;have k2:cT ([none,some (.d (.str (Rm "kept"))),some (.d (.str (Rm "none 0")))],[(.s 0,bI U [] none)])=some (.bool true,[(.s 0,bI U [] none)]):=by have:=(ua okU Mc).2;rwa[KQ]at this
 obtain⟨m1,m2⟩:=xl okU Mc;generalize gH (U.can (cW U ([],[]) []).1 (cW U ([],[]) []).2)=D at*;have e2:fg [] none=.st [] []:=rfl;rw[e2]at m1;have l8:∀a b,Sg (Lc.s 8) (ku a b aB)=some a:=λa b=>rfl;have q8:∀a b o,kn (Lc.s 8) o (ku a b aB)=ku o b aB:=λa b o=>by rcases hr with rfl|⟨V',q,rfl⟩<;>rfl
 have ok9:∀a b,okO (ku a b aB) (eK ns ds W V v5 v6 v7 (some (ag U)))=true:=λa b=>by rcases hr with rfl|⟨V',q,rfl⟩<;>rfl
 unfold Kc;rw[DX s2];unfold eK at*;generalize bI U [] none=D0 at*;generalize fg [] none=S0 at*;generalize ag U=wu at*;generalize ag W=wb at*;generalize ag V=wv at*;generalize ns.map PyData.int=N at*;generalize ds.map PyData.int=d1 at*;generalize v5.map Sv.d=u5 at*;generalize v6.map Sv.d=u6 at*;generalize v7.map Sv.d=u7 at*;have ok9':∀a b,okO (ku a b aB) [some (.d (.list N)),some (.l d1),some (.l [wb,wv]),none,none,u5,u6,u7,none,some (.d wu),none]=true:=ok9;simp?[aZ,cX,b_,wq,fj,bz,ba,sJ,BU,EH,MI,IW,tJ,oG,l4,bA,cc,lc,lS,gR,L2.locs,aw,bE,l8,q8,ok9',L2.boolD,k1,k2,m1,m2]
theorem L1{ns ds:List Int}{W V:aO}(okW':W.Ok)(okV:V.Ok){v5 v6 v7 v9:Option Rh}{p q:P2}(hp:Bq W p)(hq:Bq V q):xP 3 2 4 8 9 10 Kc (eK ns ds W V v5 v6 v7 v9,gN W V p q)=some (.nx (eK ns ds W V v5 v6 v7 (some (ag V)),ku (bI V [] none) (fg [] none) [])):=by
 have h1:=D8 (ns:=ns) (ds:=ds) (W:=W) (V:=V) okW' (v5:=v5) (v6:=v6) (v7:=v7) (aB:=[(Lc.it 4 1,fg q.r q.o),(Lc.it 3 1,bI V q.r q.o)]) (.inr ⟨V,q,rfl⟩) hp;have h2:=D8 (ns:=ns) (ds:=ds) (W:=W) (V:=V) okV (v5:=v5) (v6:=v6) (v7:=v7) (aB:=[]) (.inl rfl) hq;have e2:∀v9,(eK ns ds W V v5 v6 v7 v9)[2]?=some (some (.l [ag W,ag V])):=λv9=>rfl;have el:∀v9,8<(eK ns ds W V v5 v6 v7 v9).length/\9<(eK ns ds W V v5 v6 v7 v9).length/\10<(eK ns ds W V v5 v6 v7 v9).length/\(eK ns ds W V v5 v6 v7 v9)[2]?=some (some (.l [ag W,ag V])):=λv9=>⟨show 8<11 by decide,show 9<11 by decide,show 10<11 by decide,rfl⟩;have t1:∀U v9,lA 8 9 10 (ag U) (eK ns ds W V v5 v6 v7 v9)=eK ns ds W V v5 v6 v7 (some (ag U)):=λU v9=>rfl;have o1:oF (.it 3 0) (.it 4 0) 8 9 10 (gN W V p q)=[(Lc.it 4 1,fg q.r q.o),(Lc.it 3 1,bI V q.r q.o)]:=rfl;have o2:oF (.it 3 1) (.it 4 1) 8 9 10 (ku (bI W [] none) (fg [] none) [(Lc.it 4 1,fg q.r q.o),(Lc.it 3 1,bI V q.r q.o)])=[]:=rfl;have g1:(gN W V p q).lookup (.it 3 0)=some (bI W p.r p.o):=rfl;have g2:(gN W V p q).lookup (.it 4 0)=some (fg p.r p.o):=rfl;have g3:(ku (bI W [] none) (fg [] none) [(Lc.it 4 1,fg q.r q.o),(Lc.it 3 1,bI V q.r q.o)]).lookup (.it 3 1)=some (bI V q.r q.o):=rfl;have g4:(ku (bI W [] none) (fg [] none) [(Lc.it 4 1,fg q.r q.o),(Lc.it 3 1,bI V q.r q.o)]).lookup (.it 4 1)=some (fg q.r q.o):=rfl;have z2:ql 3 2 4 8 9 10 [ag W,ag V] Kc [] (0+1+1) (eK ns ds W V v5 v6 v7 (some (ag V)),ku (bI V [] none) (fg [] none) [])=some (.nx (eK ns ds W V v5 v6 v7 (some (ag V)),ku (bI V [] none) (fg [] none) [])):=by unfold ql;exact if_pos (e2 _)
 have z1:ql 3 2 4 8 9 10 [ag W,ag V] Kc [ag V] (0+1) (eK ns ds W V v5 v6 v7 (some (ag W)),ku (bI W [] none) (fg [] none) [(Lc.it 4 1,fg q.r q.o),(Lc.it 3 1,bI V q.r q.o)])=some (.nx (eK ns ds W V v5 v6 v7 (some (ag V)),ku (bI V [] none) (fg [] none) [])):=by unfold ql;dsimp only;rw[show(0+1:Nat)=1 from rfl,g3,g4];simp only[RK];rw[if_pos (el _),t1,o2,h2,RK];exact z2
 unfold xP;dsimp only;rw[e2];dsimp only;rw[if_pos ⟨by rw[g1];rfl,by rw[g2];rfl⟩];unfold ql;dsimp only;rw[g1,g2];simp only[RK];rw[if_pos (el _),t1,o1,h1,RK];exact z1
theorem Cj(ns:List Int)(hl:ns.length<=63):∃as',xk [.d (.list (ns.map .int))]=some (.d (.bool true),as'):=by
 obtain⟨ds,td,hd⟩:=Gu ns hl;obtain⟨W,d1,t1,hd1,okW',-,-⟩:=Hs ds 12 16 hd (by decide) (by decide) (by decide) (by decide);obtain⟨V,d2,t2,hd2,okV,-,-⟩:=Hs d1 12 16 hd1 (by decide) (by decide) (by decide) (by decide);obtain⟨d3,w5,w6,w7,p,q,h3,hp,hq⟩:=EK okW' okV (ns:=ns) hd2 (v5:=none) (v6:=none) (v7:=none) (v9:=none);have h4:=L1 (ns:=ns) (ds:=d3) okW' okV (v5:=w5) (v6:=w6) (v7:=w7) (v9:=none) hp hq;have mW:=zM (ag W);have mV:=zM (ag V);have eW:∀W,Ob.dk (yu (ag W) (.tuple []) .none)=bI W [] none:=λ_=>rfl;rw[eW]at mW mV;obtain⟨E1,hE1⟩:∃E1:En,E1=[some (.d (.list (ns.map .int))),some (.l (ds.map .int)),none,none,none,none,none,none,none,none,none]:=⟨_,rfl⟩;have hb:uT ([some (.d (.list (ns.map .int))),none,none,none,none,none,none,none,none,none,none],[])=some (.rt (.bool true) (eK ns d3 W V w5 w6 w7 (some (ag V)),ku (bI V [] none) (fg [] none) [])):=by
  have s1:ek [1] (bx 1 (dG 1 lK (aa (ab 0) ah))) ([some (.d (.list (ns.map .int))),none,none,none,none,none,none,none,none,none,none],[])=some (.nx (E1,[])):=by rw[hE1];generalize ns.map PyData.int=N at*;generalize ds.map PyData.int=d0 at*;simp?[ek,iY,okO,td]
  have s2:ek [2] (bx 2 (dq (aa (dG 3 pT (aa (ab 1) (aa (vC (.int 12)) (aa (vC (.int 16)) ah)))) (aa (dG 3 pT (aa (ab 1) (aa (vC (.int 12)) (aa (vC (.int 16)) ah)))) ah)))) (E1,[])=some (.nx (eK ns d2 W V none none none none,[])):=by rw[hE1];unfold eK;generalize ag W=wb at*;generalize ag V=wv at*;generalize ns.map PyData.int=N at*;generalize d2.map PyData.int=d2' at*;generalize d1.map PyData.int=d1' at*;generalize ds.map PyData.int=d0 at*;simp?[ek,iY,okO,t1,t2]
  have hi:MN (eK ns d2 W V none none none none)=some ([ag W,ag V],[(2,[ag W,ag V])],eK ns d2 W V none none none none):=rfl;have nm:∀U,bo ([none,some (.d (ag U))],[(.s 0,.dk [])])=some (.none,[(.s 0,bI U [] none)])->Kg bo (aw (ab 0)) ([some (.d (ag U))],[])=some (bI U [] none,([some (.d (ag U))],[])):=λU mU=>by have hv:(ab 0) [some (.d (ag U))]=some (.d (ag U),[some (.d (ag U))]):=rfl;unfold Kg aw;dsimp only;rw[hv];simp only[RK,iE,okO,List.all_nil,if_true];rw[mU];rfl
  have s3:xI 3 MN (Kg bo (aw (ab 0))) (eK ns d2 W V none none none none,[])=some (.nx (eK ns d2 W V none none none none,[(Lc.it 3 0,bI W [] none),(Lc.it 3 1,bI V [] none)])):=by unfold xI;rw[hi,RK];dsimp only;rw[if_pos ⟨rfl,show 3<11 by decide,show 2<=1000 by decide⟩];unfold yt;rw[nm W mW,RK,if_pos ⟨rfl,rfl,rfl⟩];unfold yt;rw[nm V mV,RK,if_pos ⟨rfl,rfl,rfl⟩];rfl
  have s4:Gc 4 (uh IW (uh IW IU)) (eK ns d2 W V none none none none,[(Lc.it 3 0,bI W [] none),(Lc.it 3 1,bI V [] none)])=some (.nx (eK ns d2 W V none none none none,gN W V p0 p0)):=rfl;unfold uT;rw[DX s1,DX s2,DX s3,DX s4,DX h3,DX h4];have hok:okO (ku (bI V [] none) (fg [] none) []) (eK ns d3 W V w5 w6 w7 (some (ag V)))=true:=rfl;unfold bD aw;simp only[vC,RK,iE,hok,if_true,SE]
 refine⟨[.d (.list (ns.map .int))],?_⟩;have hm:o6 ([some (.d (.list (ns.map .int)))],[])=some (.bool true,[]):=by unfold o6 cy;rw[if_pos ⟨rfl,rfl⟩];show(uT ([some (.d (.list (ns.map .int))),none,none,none,none,none,none,none,none,none,none],[])).bind _=_;rw[hb];rfl
 show Cq o6 [.d (.list (ns.map .int))]=_;unfold Cq;refine(if_pos (show vc [some (.d (.list (ns.map .int)))]=true from rfl)).trans ?_;show(o6 ([some (.d (.list (ns.map .int)))],[])).map _=_;rw[hm];rfl
theorem G7{P:List Oq->Prop}(h:∀a0,P [a0]):∀us:List Oq,us.length=1->P us:=λus e=>match us,e with|[a0],_=>h a0
theorem vD{P:List Oq->Prop}(h:∀a0 a1,P [a0,a1]):∀us:List Oq,us.length=2->P us:=λus e=>match us,e with|[a0,a1],_=>h a0 a1
theorem El{P:List Oq->Prop}(h:∀a0 a1 a2,P [a0,a1,a2]):∀us:List Oq,us.length=3->P us:=λus e=>match us,e with|[a0,a1,a2],_=>h a0 a1 a2
theorem MW{P:List Oq->Prop}(h:∀a0 a1 a2 a3,P [a0,a1,a2,a3]):∀us:List Oq,us.length=4->P us:=λus e=>match us,e with|[a0,a1,a2,a3],_=>h a0 a1 a2 a3
abbrev hQ(w:Ro)(n:Str)(s:Rx)(a c:xM)(d p:Oq):Prop:=(Tt (kK w.params) Se n,Sg a (kK w.params),UV (kK w.params) (.ref c) n,Ul (kK w.params) (.ref a))=(some (some (.ref a)),some (kF n s d p c),true,true)
theorem hm{w:Ro}{h:Ru}{mg:Str->Option Oq}{n:Str}{s:Rx}{a c:xM}{d p:Oq}{ps:List Str}(X:(kK w.params).In h)(G:h.Ns Se mg)(e:hQ w n s a c d p)(b:∀(kV doc pm:Oq) (an:Option xM) (cdv ct:Oq) (us:List Oq),us.length=ps.length->bindArgs (SZ n n (dY s) (cH s) (aj s) .none kV doc pm an cdv ct) ⟨us,[]⟩=pure (ps.zip us)):dO (kK w.params) mg n s a (SZ n n (dY s) (cH s) (aj s) .none .none d p none (.ref c) .none) ps:=HZ X G (congrArg (·.1) e) (congrArg (·.2.1) e) (congrArg (·.2.2.1) e) (congrArg (·.2.2.2) e) b
theorem vy(w:Ro):hQ w "things_of" dm 135 134 (.none) Ek:=by kernel_rfl
theorem vw(w:Ro):hQ w "many_asks" gK 140 139 (.none) Ek:=by kernel_rfl
theorem nH(w:Ro):hQ w "bears_one_more" cD 147 146 (.none) Ek:=by kernel_rfl
theorem yG(w:Ro):hQ w "may_ask" iA 152 151 (.none) Ek:=by kernel_rfl
theorem qg(w:Ro):hQ w "stand_behind" di 159 158 (.none) Ek:=by kernel_rfl
theorem vx(w:Ro):hQ w "number_of" gL 202 201 (.none) Md:=by kernel_rfl
theorem xh(w:Ro):hQ w "row_line" fU 214 213 (.none) Md:=by kernel_rfl
theorem yF(w:Ro):hQ w "kept_of" iz 219 218 (.none) Me:=by kernel_rfl
theorem sX(w:Ro):hQ w "worth_kept" eZ 224 223 (.none) Me:=by kernel_rfl
theorem yE(w:Ro):hQ w "asks_at" jA 229 228 (.none) Nt:=by kernel_rfl
theorem qh(w:Ro):hQ w "stand_of_run" cE 279 278 (.none) wz:=by kernel_rfl
theorem xg(w:Ro):hQ w "may_line" iO 291 290 (.none) wz:=by kernel_rfl
theorem vt(w:Ro):hQ w "kept_line" gJ 310 309 (.none) wz:=by kernel_rfl
theorem sW(w:Ro):hQ w "tie_to_ask" eY 317 316 (.none) wz:=by kernel_rfl
theorem Cd(w:Ro):hQ w "_law_mixed" om 374 373 (.none) jb:=by kernel_rfl
theorem Cc(w:Ro):hQ w "_law_draws" ol 381 380 (.none) jb:=by kernel_rfl
theorem ET(w:Ro):hQ w "_law_next" lu 388 387 (.none) jb:=by kernel_rfl
theorem Io(w:Ro):hQ w "_law_gcd" xK 395 394 (.none) jb:=by kernel_rfl
theorem Ip(w:Ro):hQ w "_law_low" xN 402 401 (.none) jb:=by kernel_rfl
theorem AN(w:Ro):hQ w "_law_chance" lr 409 408 (.none) jb:=by kernel_rfl
theorem Cf(w:Ro):hQ w "_law_worth" oq 416 415 (.none) jb:=by kernel_rfl
theorem EU(w:Ro):hQ w "_law_ties" rX 423 422 (.none) jb:=by kernel_rfl
theorem Ir(w:Ro):hQ w "_law_web" xO 430 429 (.none) jb:=by kernel_rfl
theorem yD(w:Ro):hQ w "_law_asks_of" jz 435 434 (.none) jb:=by kernel_rfl
theorem Iq(w:Ro):hQ w "_law_may" uq 442 441 (.none) jb:=by kernel_rfl
theorem AM(w:Ro):hQ w "_law_behind" lq 449 448 (.none) jb:=by kernel_rfl
theorem yC(w:Ro):hQ w "_law_askable" jy 454 453 (.none) jb:=by kernel_rfl
theorem ER(w:Ro):hQ w "_law_kept" rV 459 458 (.none) jb:=by kernel_rfl
theorem xf(w:Ro):hQ w "_law_stand_of" iN 466 465 (.none) jb:=by kernel_rfl
theorem xc(w:Ro):hQ w "_law_row_text" iM 471 470 (.none) jb:=by kernel_rfl
theorem Im(w:Ro):hQ w "_law_due" uo 476 475 (.none) jb:=by kernel_rfl
theorem ES(w:Ro):hQ w "_law_line" rW 483 482 (.none) jb:=by kernel_rfl
theorem EV(w:Ro):hQ w "_law_told" pk 490 489 (.none) jb:=by kernel_rfl
theorem Ce(w:Ro):hQ w "_law_right" oo 497 496 (.none) jb:=by kernel_rfl
theorem Iu(w:Ro):hQ w "law" rZ 502 501 (.none) jb:=by kernel_rfl
theorem all_mk{l:W.OpenLaw}{w:Ro}{h:Ru}{mg:Str->Option Oq}{fa:xM}(X:(kK w.params).In h)(G:h.Ns Se mg)(hfa:mg "law"=some (.ref fa)):∃fd:RD,(∀(s:Rg) (v:Oq),BindsTo s fd ⟨[v],[]⟩ [("_law_script",v)])/\∀base:Ru,(kK w.params).In base->base.Ns Se mg->aG l.prog w (kK w.params) mg base ck 10 fa fd ["_law_script"] (eu (kK w.params) 1 xk):=by
 have e:=hfa.symm.trans (TY X G (show Tt (kK w.params) Se "law"=some (some (.ref 502)) by kernel_rfl));cases e;have nn:∀{n:Str},Tt (kK w.params) Se n=some none->mg n=none:=λe=>W.mg_none_of X G e;have T:cA mg:=⟨nn (by kernel_rfl),nn (by kernel_rfl),nn (by kernel_rfl),nn (by kernel_rfl),nn (by kernel_rfl),nn (by kernel_rfl),nn (by kernel_rfl),nn (by kernel_rfl),nn (by kernel_rfl),nn (by kernel_rfl),nn (by kernel_rfl),nn (by kernel_rfl),nn (by kernel_rfl),nn (by kernel_rfl),nn (by kernel_rfl),nn (by kernel_rfl),nn (by kernel_rfl),nn (by kernel_rfl)⟩;have OD:=hm (ps:=["web","tie"]) X G (vy w) λ_ _ _ _ _ _=>vD λ_ _=>rfl;have OX:=hm (ps:=["web","asked","thing"]) X G (vw w) λ_ _ _ _ _ _=>El λ_ _ _=>rfl;have OG:=hm (ps:=["web","stand","thing"]) X G (nH w) λ_ _ _ _ _ _=>El λ_ _ _=>rfl;have OO:=hm (ps:=["web","stand","tie"]) X G (yG w) λ_ _ _ _ _ _=>El λ_ _ _=>rfl;have OI:=hm (ps:=["web","stand","tie","truth"]) X G (qg w) λ_ _ _ _ _ _=>MW λ_ _ _ _=>rfl;have OY:=hm (ps:=["word"]) X G (vx w) λ_ _ _ _ _ _=>G7 λ_=>rfl;have OK:=hm (ps:=["row"]) X G (xh w) λ_ _ _ _ _ _=>G7 λ_=>rfl;have OT:=hm (ps:=["run"]) X G (yF w) λ_ _ _ _ _ _=>G7 λ_=>rfl;have OP:=hm (ps:=["web","run"]) X G (sX w) λ_ _ _ _ _ _=>vD λ_ _=>rfl;have Pc:=hm (ps:=["web","stand"]) X G (yE w) λ_ _ _ _ _ _=>vD λ_ _=>rfl;have OA:=hm (ps:=["web","run"]) X G (qh w) λ_ _ _ _ _ _=>vD λ_ _=>rfl;have OM:=hm (ps:=["web","run"]) X G (xg w) λ_ _ _ _ _ _=>vD λ_ _=>rfl;have OH:=hm (ps:=["web","run"]) X G (vt w) λ_ _ _ _ _ _=>vD λ_ _=>rfl;have OJ:=hm (ps:=["web","line"]) X G (sW w) λ_ _ _ _ _ _=>vD λ_ _=>rfl;have Pr:=hm (ps:=["_law_cell","_law_k"]) X G (Cd w) λ_ _ _ _ _ _=>vD λ_ _=>rfl;have Pu:=hm (ps:=["_law_script"]) X G (Cc w) λ_ _ _ _ _ _=>G7 λ_=>rfl;have OE:=hm (ps:=["_law_drawn"]) X G (ET w) λ_ _ _ _ _ _=>G7 λ_=>rfl;have Qr:=hm (ps:=["_law_one","_law_other"]) X G (Io w) λ_ _ _ _ _ _=>vD λ_ _=>rfl;have Qg:=hm (ps:=["_law_top","_law_bottom"]) X G (Ip w) λ_ _ _ _ _ _=>vD λ_ _=>rfl;have Pk:=hm (ps:=["_law_number","_law_kind"]) X G (AN w) λ_ _ _ _ _ _=>vD λ_ _=>rfl;have PF:=hm (ps:=["_law_number","_law_kind"]) X G (Cf w) λ_ _ _ _ _ _=>vD λ_ _=>rfl;have P5:=hm (ps:=["_law_drawn","_law_things","_law_many"]) X G (EU w) λ_ _ _ _ _ _=>El λ_ _ _=>rfl;have P':=hm (ps:=["_law_drawn","_law_most","_law_ties_here"]) X G (Ir w) λ_ _ _ _ _ _=>El λ_ _ _=>rfl;have Pd:=hm (ps:=["_law_web_here","_law_asked","_law_thing"]) X G (yD w) λ_ _ _ _ _ _=>El λ_ _ _=>rfl;have P4:=hm (ps:=["_law_web_here","_law_stand","_law_tie"]) X G (Iq w) λ_ _ _ _ _ _=>El λ_ _ _=>rfl;have Pl:=hm (ps:=["_law_web_here","_law_stand","_law_tie","_law_truth"]) X G (AM w) λ_ _ _ _ _ _=>MW λ_ _ _ _=>rfl;have O1:=hm (ps:=["_law_web_here","_law_stand"]) X G (yC w) λ_ _ _ _ _ _=>vD λ_ _=>rfl;have PR:=hm (ps:=["_law_web_here","_law_run"]) X G (ER w) λ_ _ _ _ _ _=>vD λ_ _=>rfl;have OV:=hm (ps:=["_law_web_here","_law_run"]) X G (xf w) λ_ _ _ _ _ _=>vD λ_ _=>rfl;have OL:=hm (ps:=["_law_numbers"]) X G (xc w) λ_ _ _ _ _ _=>G7 λ_=>rfl;have PH:=hm (ps:=["_law_web_here","_law_state","_law_line_here"]) X G (Im w) λ_ _ _ _ _ _=>El λ_ _ _=>rfl;have PY:=hm (ps:=["_law_drawn","_law_web_here","_law_menu"]) X G (ES w) λ_ _ _ _ _ _=>El λ_ _ _=>rfl;have O8:=hm (ps:=["_law_desk","_law_line_here","_law_due_here"]) X G (EV w) λ_ _ _ _ _ _=>El λ_ _ _=>rfl;have Pv:=hm (ps:=["_law_desk","_law_web_here","_law_state","_law_line_here"]) X G (Ce w) λ_ _ _ _ _ _=>MW λ_ _ _ _=>rfl;have QY:=hm (ps:=["_law_script"]) X G (Iu w) λ_ _ _ _ _ _=>G7 λ_=>rfl;have F_Desk___init__:=mw (K:=(kK w.params)) (x:="__init__") (qual:="Desk.__init__") (st:=dZ) (f:=332) (oc:=.type "function") (od:=none) (an:=none) (osl:=#[]) (kV:=.none) (doc:=.none) (pm:=wz) (cdv:=.ref 331) (ct:=.none) (by kernel_rfl) (by kernel_rfl) (by kernel_rfl);have B_Desk___init__:=wy.binds F_Desk___init__ (ps:=["self","web"]) λ_ _ _ _ _ _=>vD λ_ _=>rfl;have F_Desk_say:=mw (K:=(kK w.params)) (x:="say") (qual:="Desk.say") (st:=kb) (f:=339) (oc:=.type "function") (od:=none) (an:=none) (osl:=#[]) (kV:=.none) (doc:=.none) (pm:=wz) (cdv:=.ref 338) (ct:=.none) (by kernel_rfl) (by kernel_rfl) (by kernel_rfl);have B_Desk_say:=wy.binds F_Desk_say (ps:=["self","line"]) λ_ _ _ _ _ _=>vD λ_ _=>rfl;have me_Desk_say:oK (kK w.params) 363 "say" 339:=⟨by kernel_rfl,by kernel_rfl,by kernel_rfl⟩;have F_Desk_take_ask:=mw (K:=(kK w.params)) (x:="take_ask") (qual:="Desk.take_ask") (st:=d9) (f:=346) (oc:=.type "function") (od:=none) (an:=none) (osl:=#[]) (kV:=.none) (doc:=.none) (pm:=wz) (cdv:=.ref 345) (ct:=.none) (by kernel_rfl) (by kernel_rfl) (by kernel_rfl);have B_Desk_take_ask:=wy.binds F_Desk_take_ask (ps:=["self","tie"]) λ_ _ _ _ _ _=>vD λ_ _=>rfl;have me_Desk_take_ask:oK (kK w.params) 363 "take_ask" 346:=⟨by kernel_rfl,by kernel_rfl,by kernel_rfl⟩;have F_Desk_take_answer:=mw (K:=(kK w.params)) (x:="take_answer") (qual:="Desk.take_answer") (st:=cK) (f:=353) (oc:=.type "function") (od:=none) (an:=none) (osl:=#[]) (kV:=.none) (doc:=.none) (pm:=wz) (cdv:=.ref 352) (ct:=.none) (by kernel_rfl) (by kernel_rfl) (by kernel_rfl);have B_Desk_take_answer:=wy.binds F_Desk_take_answer (ps:=["self","truth"]) λ_ _ _ _ _ _=>vD λ_ _=>rfl;have me_Desk_take_answer:oK (kK w.params) 363 "take_answer" 353:=⟨by kernel_rfl,by kernel_rfl,by kernel_rfl⟩;have F_Desk_take_back:=mw (K:=(kK w.params)) (x:="take_back") (qual:="Desk.take_back") (st:=dC) (f:=360) (oc:=.type "function") (od:=none) (an:=none) (osl:=#[]) (kV:=.none) (doc:=.none) (pm:=wz) (cdv:=.ref 359) (ct:=.none) (by kernel_rfl) (by kernel_rfl) (by kernel_rfl);have B_Desk_take_back:=wy.binds F_Desk_take_back (ps:=["self"]) λ_ _ _ _ _ _=>G7 λ_=>rfl;have me_Desk_take_back:oK (kK w.params) 363 "take_back" 360:=⟨by kernel_rfl,by kernel_rfl,by kernel_rfl⟩;have lG_47:Sg 47 (kK w.params)=some (kT [.int (0) 233,.int (1) 234] 0):=by kernel_rfl
 have m_ZERO:=TY X G (show Tt (kK w.params) Se "ZERO"=some (some (.ref 47)) by kernel_rfl);have c_ZERO:∀F,DA (kK w.params) F (.tuple [.int (0),.int (1)]) (.ref 47):=λF=>by simp only[DA,aT];exact⟨47,[V.int (0),V.int (1)],rfl,.inr ⟨_,_,_,lG_47,rfl,rfl,rfl,(by show 2<=RH;decide),(.cons ⟨_,rfl⟩ (.cons ⟨_,rfl⟩ .nil))⟩,⟨_,_,rfl,rfl,⟨_,_,rfl,rfl,rfl⟩⟩⟩
 have lG_128:Sg 128 (kK w.params)=some (kT [.ref 126,.ref 127] 0):=by kernel_rfl
 have lG_126:Sg 126 (kK w.params)=some (kT [] 0):=by kernel_rfl
 have lG_127:Sg 127 (kK w.params)=some (kT [] 0):=by kernel_rfl
 have m_FIRST_STAND:=TY X G (show Tt (kK w.params) Se "FIRST_STAND"=some (some (.ref 128)) by kernel_rfl);have c_FIRST_STAND:∀F,DA (kK w.params) F (.tuple [.tuple [],.tuple []]) (.ref 128):=λF=>by simp only[DA,aT];exact⟨128,[V.ref 126,V.ref 127],rfl,.inr ⟨_,_,_,lG_128,rfl,rfl,rfl,(by show 2<=RH;decide),(.cons rfl (.cons rfl .nil))⟩,⟨_,_,rfl,⟨126,[],rfl,.inr ⟨_,_,_,lG_126,rfl,rfl,rfl,(by show 0<=RH;decide),.nil⟩,rfl⟩,⟨_,_,rfl,⟨127,[],rfl,.inr ⟨_,_,_,lG_127,rfl,rfl,rfl,(by show 0<=RH;decide),.nil⟩,rfl⟩,rfl⟩⟩⟩
 have m_END:=TY X G (show Tt (kK w.params) Se "END"=some (some (.int (-1) 384)) by kernel_rfl);have m_MOST_TIES_OF_BOUND:=TY X G (show Tt (kK w.params) Se "MOST_TIES_OF_BOUND"=some (some (.int (10) 405)) by kernel_rfl);have m_MOST_FIGURES:=TY X G (show Tt (kK w.params) Se "MOST_FIGURES"=some (some (.int (4) 441)) by kernel_rfl);have m_MOST_TIES_OF_TABLE:=TY X G (show Tt (kK w.params) Se "MOST_TIES_OF_TABLE"=some (some (.int (7) 513)) by kernel_rfl);have mQ:=TY X G (show Tt (kK w.params) Se "QUESTIONS"=some (some (.ref 318)) by kernel_rfl);have TQ:J' (kK w.params) w 318 [("may",291),("best",296),("bound",303),("kept",310)]:=⟨⟨[kE w.params "may" 616 (.ref 291),kE w.params "best" 617 (.ref 296),kE w.params "bound" 618 (.ref 303),kE w.params "kept" 619 (.ref 310)].toArray,4,by kernel_rfl,(.cons ⟨rfl,⟨_,rfl⟩,rfl⟩ (.cons ⟨rfl,⟨_,rfl⟩,rfl⟩ (.cons ⟨rfl,⟨_,rfl⟩,rfl⟩ (.cons ⟨rfl,⟨_,rfl⟩,rfl⟩ .nil))))⟩,by decide+kernel,rfl⟩;have hks:[(("may":Str),(291:xM)),(("best":Str),(296:xM)),(("bound":Str),(303:xM)),(("kept":Str),(310:xM))].map (·.1)=Kj:=rfl;have a_may:Sg ("may":Str) [(("may":Str),(291:xM)),(("best":Str),(296:xM)),(("bound":Str),(303:xM)),(("kept":Str),(310:xM))]=some 291:=rfl;have a_kept:Sg ("kept":Str) [(("may":Str),(291:xM)),(("best":Str),(296:xM)),(("bound":Str),(303:xM)),(("kept":Str),(310:xM))]=some 310:=rfl;have cls:sP (kK w.params) 363:=⟨by kernel_rfl,by kernel_rfl,by kernel_rfl,by kernel_rfl⟩;have na_web:bQ (kK w.params) 363 "web":=show Te (kK w.params) (.ref 363) "web"=some none by kernel_rfl
 have na_run:bQ (kK w.params) 363 "run":=show Te (kK w.params) (.ref 363) "run"=some none by kernel_rfl
 have na_waiting:bQ (kK w.params) 363 "waiting":=show Te (kK w.params) (.ref 363) "waiting"=some none by kernel_rfl
 have MK:Mk (kK w.params) 363 332:=⟨by kernel_rfl,by kernel_rfl,by kernel_rfl,by kernel_rfl⟩;have mC:=TY X G (show Tt (kK w.params) Se "Desk"=some (some (.ref 363)) by kernel_rfl);refine⟨SZ "law" "law" (dY rZ) (cH rZ) (aj rZ) .none .none (.none) jb none (.ref 501) .none,λs v=>.of_eq rfl,λbase _ _=>?_⟩;have cl:∀{f:xM}{fd:RD}{n:Str}{s:Rx}{ps:List Str}{lv k:Nat}{m:FM},dO (kK w.params) mg n s f fd ps->aG l.prog w (kK w.params) mg base ck lv f fd ps (eu (kK w.params) k m)->Cl l.prog w (kK w.params) mg base n s ps lv k m:=λh g=>⟨_,_,h,g⟩;have z_things_of:=cl OD (vL OD T);have z_many_asks:=cl OX (vJ OX T z_things_of);have z_bears_one_more:=cl OG (nP OG T z_many_asks);have OU:=yP (P:=l.prog) (w:=w) (base:=base) OO T z_bears_one_more z_things_of;have z_may_ask:=cl OO OU;have z_stand_behind:=cl OI (qi OI T z_things_of);have z_number_of:=cl OY (vK OY T m_MOST_FIGURES);have z_row_line:=cl OK (xx OK T);have z_kept_of:=cl OT (yO OT T);have z_worth_kept:=cl OP (tf OP T z_kept_of);have z_asks_at:=cl Pc (yN Pc T z_may_ask);have OC:=qj (P:=l.prog) (w:=w) (base:=base) OA T z_stand_behind m_FIRST_STAND c_FIRST_STAND;have z_stand_of_run:=cl OA OC;have Pa:=xw (P:=l.prog) (w:=w) (base:=base) OM T z_asks_at z_stand_of_run z_row_line;have z_may_line:=cl OM Pa;have O0:=vI (P:=l.prog) (w:=w) (base:=base) OH T z_kept_of z_row_line z_worth_kept;have z_kept_line:=cl OH O0;have OQ:=s_ (P:=l.prog) (w:=w) (base:=base) OJ T z_number_of;have z_tie_to_ask:=cl OJ OQ;have zLmixed:=cl Pr (CJ Pr T);have PJ:=CH (P:=l.prog) (w:=w) (base:=base) Pu T zLmixed;have zLdraws:=cl Pu PJ;have OF:=Ff (P:=l.prog) (w:=w) (base:=base) OE T;have zLnext:=cl OE OF;have zLgcd:=cl Qr (IY Qr T);have zLlow:=cl Qg (IZ Qg T zLgcd);have zLchance:=cl Pk (AU Pk T zLlow);have zLworth:=cl PF (CK PF T);have zLties:=cl P5 (Fg P5 T zLnext zLchance zLworth);have Qm:=Ja (P:=l.prog) (w:=w) (base:=base) P' T zLties zLnext;have zLweb:=cl P' Qm;have zLasks_of:=cl Pd (yM Pd T);have P_:=I_ (P:=l.prog) (w:=w) (base:=base) P4 T zLasks_of;have zLmay:=cl P4 P_;have zLbehind:=cl Pl (AS Pl T);have Pe:=yL (P:=l.prog) (w:=w) (base:=base) O1 T zLmay;have zLaskable:=cl O1 Pe;have P6:=Fd (P:=l.prog) (w:=w) (base:=base) PR T;have zLkept:=cl PR P6;have O9:=xu (P:=l.prog) (w:=w) (base:=base) OV T zLbehind;have zLstand_of:=cl OV O9;have OW:=xt (P:=l.prog) (w:=w) (base:=base) OL T;have zLrow_text:=cl OL OW;have PX:=Fh (P:=l.prog) (w:=w) (base:=base) (C:=363) PH T OV O9 OL OW O1 Pe P4 P_ PR P6;have P7:=Fe (P:=l.prog) (w:=w) (base:=base) PY T zLnext;have zLline:=cl PY P7;have G_Desk_take_answer:=lg (P:=l.prog) (w:=w) (base:=base) (C:=363) F_Desk_take_answer T cls na_run na_waiting na_web;have G_Desk_take_back:=my (P:=l.prog) (w:=w) (base:=base) (C:=363) F_Desk_take_back T cls na_run na_waiting;have G_Desk_take_ask:=nR (P:=l.prog) (w:=w) (base:=base) (C:=363) F_Desk_take_ask T OO OU OA OC cls na_run na_waiting na_web;have G_Desk_say:=vM (P:=l.prog) (w:=w) (base:=base) (C:=363) F_Desk_say T OJ OQ me_Desk_take_answer B_Desk_take_answer G_Desk_take_answer me_Desk_take_back B_Desk_take_back G_Desk_take_back OM Pa OH O0 me_Desk_take_ask B_Desk_take_ask G_Desk_take_ask cls na_run na_web TQ hks mQ a_may a_kept;have Pb:=CM (P:=l.prog) (w:=w) (base:=base) (C:=363) O8 T me_Desk_say B_Desk_say G_Desk_say cls;have PK:=AV (P:=l.prog) (w:=w) (base:=base) (C:=363) Pv T O8 Pb PH PX;have G_Desk___init__:=nQ (P:=l.prog) (w:=w) (base:=base) (C:=363) F_Desk___init__ T cls na_run na_waiting na_web;have QZ:=IP (Fi (P:=l.prog) (w:=w) (base:=base) (C:=363) QY T Pu PJ P' Qm MK mC B_Desk___init__ G_Desk___init__ PY P7 OE OF Pv PK O8 Pb PH PX cls);exact QZ
def LF(K:Rj):Sp:=λvs H Q _=>∃(a:xM) (ns:List Int),vs=[.ref a]/\fX K H a (ns.map V.int)/\ns.length<=63/\∀H',Q (.bl true) H'
theorem Iz{K:Rj}{vs:List V}{H:Hp}{Q:VK}{E:XK}(h:LF K vs H Q E):eu K 1 xk vs H Q E:=by obtain⟨a,ns,rfl,hS,hl,q⟩:=h;obtain⟨as',hm⟩:=Cj ns hl;exact y4 hS hm q
theorem walk{l:W.OpenLaw}{q:Rw}{loose:List Str}{XP:(Str->Option Oq)->Ru->Prop}{YP:Ro->Ru->Prop}{d:DefRec}{K:Params->Rj}(hn:l.most=some 63)(hdf:d.params.defaults=[])(hY:∀(w:Ro) (h:Ru),YP w h->(K w.params).In h)(F:∀(w:Ro) (mg:Str->Option Oq) (fa:xM) (h:Ru),(K w.params).In h->h.Ns Se mg->mg d.name=some (.ref fa)->∃fd:RD,(∀(s:Rg) (u:Oq),BindsTo s fd ⟨[u],[]⟩ [("_law_script",u)])/\∀base:Ru,(K w.params).In base->base.Ns Se mg->aG l.prog w (K w.params) mg base ck 10 fa fd ["_law_script"] (eu (K w.params) 1 xk)):W.WalkO q loose XP YP l.row.toRowW d [] (λf vs=>PySem.call f vs):=L2.walk_of (n:=63) (k:=10) (x:="_law_script") (CX:=λ_=>ck) (sp:=λw=>eu (K w.params) 1 xk) hn (by decide) hdf ⟨rfl,by decide,by decide,rfl⟩ hY F (λ_ _ a ns hl _ hS=>Iz ⟨a,ns,rfl,hS,hl,λ_=>rfl⟩) λ_ _ _ _ _ z=>z
end V90
open PySem PySem.W PyProof.Rows
theorem saO{l:OpenLaw}(h:l.wellSaid=true):l.row.wellSaid=true:=by
 cases e:l.row.wellSaid with
 |true=>rfl
 |false=>unfold OpenLaw.wellSaid at h;rw[e]at h;simp at h
set_option maxRecDepth 100000 in
theorem sa0:VL.wellSaid=true:=by kernel_rfl
set_option maxRecDepth 100000 in
set_option maxHeartbeats 0 in
theorem PySem.Challenge.cw_askedpairs_k90_taken_back_holds : PySem.Challenge.rw_askedpairs_k90_taken_back.Holds := by
  w_on;refine⟨sa0,?_⟩;have:=saO sa0
  refine holds_open (q:=V90.kq) (loose:=["QUESTIONS"]) (Xt:=fun s=>xlAt V90.kq [] s&&recOk (RowW.records (OpenRow.toRowW (OpenLaw.row VL))) s) (XP:=XL V90.kq []) (Yf:=Hook.obs V90.kH) (Ya:=Hook.val V90.kH) (YP:=Hook.says V90.kH) (N:=6030) V90.left (Hook.of V90.kH) (Hook.keeps V90.kH) (fun s e=>xl_of s (Wm.mp e).1) XL.keeps (by rfl) (by rfl) (by rfl) (fun s e=>recFacts_of (Wm.mp e).2) (by rfl) (by assumption) (by decide+kernel) ⟨rfl,rfl,rfl,rfl,rfl,by decide+kernel⟩ ?hw ?hc
  case hw=>w_witness2
  case hc=>exact V90.walk (l:=VL) rfl rfl (fun w h Y=>kIn_of Y) (fun w mg fa h KX G hmg=>V90.all_mk KX G hmg)
